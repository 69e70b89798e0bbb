"""Points 1 and 2: what a land, signs, places and roads are; which refusal goes first."""

import copy
import unittest

from signposts.errors import AtHome, BadLand, BadPlace, BadRoad, BadSigns, NoSign
from signposts.posts import Posts
from signposts.turning import astray, fewest, followed, home_from, worth
from support import LAND, SIGNS, all_roads, bad_lands, bad_places, bad_signs

# Each door with good arguments; the first two are land and signs.
DOORS = [
    (followed, (LAND, SIGNS, 2)),
    (fewest, (LAND, SIGNS)),
    (home_from, (LAND, SIGNS)),
    (worth, (LAND, SIGNS, 2)),
    (astray, (LAND, SIGNS, 2, 3)),
]


class Refusals(unittest.TestCase):
    def refused(self, error, door, *given):
        with self.assertRaises(error) as caught:
            door(*given)
        self.assertEqual(type(caught.exception), error)

    def test_good_arguments_are_taken(self):
        for door, given in DOORS:
            door(*given)
        Posts(LAND)

    def test_bad_land(self):
        for bad in bad_lands():
            with self.subTest(bad):
                self.refused(BadLand, Posts, bad)
                for door, given in DOORS:
                    self.refused(BadLand, door, bad, *given[1:])

    def test_bad_signs(self):
        for bad in bad_signs(LAND):
            for door, given in DOORS:
                with self.subTest(bad, door=door):
                    self.refused(BadSigns, door, LAND, bad, *given[2:])

    def test_home_has_no_sign_though_a_road_leads_from_it(self):
        land = (2, 1, [(0, 1), (1, 0)])
        self.refused(BadSigns, home_from, land, [1, 0])
        self.assertEqual(home_from(land, [1, None]), [0, 1])

    def test_bad_place(self):
        for bad in bad_places(7):
            with self.subTest(bad):
                self.refused(BadPlace, followed, LAND, SIGNS, bad)
                self.refused(BadPlace, worth, LAND, SIGNS, bad)
                self.refused(BadPlace, astray, LAND, SIGNS, bad, None)
                self.refused(BadPlace, Posts(LAND).turn, bad, 0)
                self.refused(BadPlace, Posts(LAND).lose, bad)

    def test_at_home(self):
        self.refused(AtHome, astray, LAND, SIGNS, 0, 1)
        self.refused(AtHome, astray, LAND, SIGNS, 0, None)
        self.refused(AtHome, Posts(LAND).turn, 0, 1)
        self.refused(AtHome, Posts(LAND).lose, 0)

    def test_bad_road(self):
        # From 2 roads lead to 1 and 3; True would be 1.
        for bad in bad_places(7) + [0, 2, 4]:
            if bad is not None:
                with self.subTest(bad):
                    self.refused(BadRoad, astray, LAND, SIGNS, 2, bad)
        for bad in bad_places(7) + [0, 2, 4]:
            with self.subTest(bad):
                self.refused(BadRoad, Posts(LAND).turn, 2, bad)

    def test_no_sign(self):
        posts = Posts(LAND)
        for place in range(1, 7):
            self.refused(NoSign, posts.lose, place)
        posts.turn(1, 0)
        posts.lose(1)
        self.refused(NoSign, posts.lose, 1)

    def test_the_one_told_first_goes_first(self):
        for door in [followed, worth]:
            self.refused(BadLand, door, None, None, None)
            self.refused(BadSigns, door, LAND, None, None)
        for door in [fewest, home_from]:
            self.refused(BadLand, door, None, None)
        self.refused(BadLand, astray, None, None, None, "x")
        self.refused(BadSigns, astray, LAND, None, None, "x")
        self.refused(BadPlace, astray, LAND, SIGNS, None, "x")
        self.refused(AtHome, astray, LAND, SIGNS, 0, "x")
        self.refused(BadPlace, Posts(LAND).turn, None, "x")
        self.refused(AtHome, Posts(LAND).turn, 0, "x")
        self.refused(AtHome, Posts(LAND).lose, 0)

    def test_nothing_is_changed_by_a_refusal(self):
        posts = Posts(LAND)
        posts.turn(2, 1)
        before = posts.all_signs(), posts.turned()
        for place, sign in [(None, 1), (7, 1), (0, 1), (2, None), (2, 2), (2, "1"), (1, 3)]:
            with self.assertRaises(ValueError):
                posts.turn(place, sign)
        for place in [None, 7, 0, 1]:
            with self.assertRaises(ValueError):
                posts.lose(place)
        self.assertEqual((posts.all_signs(), posts.turned()), before)
        land, signs = copy.deepcopy((LAND, SIGNS))
        for given in [(7, None), (0, 1), (2, 4)]:
            with self.assertRaises(ValueError):
                astray(land, signs, *given)
        self.assertEqual((land, signs), (LAND, SIGNS))

    def test_largest_and_smallest_lands(self):
        for land in [(1, 0, []), (40, 39, []), (40, 0, all_roads(40)[:120]), (2, 1, [(0, 1), (1, 0)])]:
            with self.subTest(land):
                Posts(land)
                self.assertEqual(home_from(land, [None] * land[0]), [land[1]])

    def test_two_roads_rise_by_their_first_unlike_members(self):
        land = (3, 0, [(0, 2), (1, 0), (1, 2), (2, 1)])
        self.assertEqual(home_from(land, [None, 0, 1]), [0, 1, 2])


class Own(unittest.TestCase):
    """Point 1: nothing handed in is kept or changed, and what is told is the asker's own."""

    def test_nothing_handed_in_is_changed(self):
        land, signs = copy.deepcopy((LAND, SIGNS))
        for door, given in DOORS:
            door(land, signs, *given[2:])
        for answer in [followed(land, signs, 2), followed(land, signs, 3), followed(land, signs, 6)]:
            answer.shows(land, signs, 2)
        fewest(land, signs).shows(land, signs)
        posts = Posts(land)
        posts.turn(1, 0)
        self.assertEqual((land, signs), (LAND, SIGNS))

    def test_posts_keep_nothing_handed_in(self):
        roads = [(1, 0), (2, 1)]
        posts = Posts((3, 0, roads))
        roads.clear()
        self.assertEqual(posts.turn(1, 0), 2)
        roads.append((2, 0))
        with self.assertRaises(BadRoad):
            posts.turn(2, 0)

    def test_told_lists_are_the_askers_own(self):
        posts = Posts(LAND)
        posts.turn(1, 0)
        told = posts.all_signs()
        told[1] = 2
        told.append(5)
        self.assertEqual(posts.all_signs(), [None, 0, None, None, None, None, None])
        signs = [None, 0, 1]
        land = (3, 0, [(1, 0), (2, 1)])
        for once in [home_from(land, signs), astray(land, signs, 1, None)]:
            once.append(9)
        self.assertEqual(home_from(land, signs), [0, 1, 2])
        self.assertEqual(astray(land, signs, 1, None), [1, 2])

    def test_answers_hold_lists_of_their_own(self):
        land, signs = copy.deepcopy((LAND, SIGNS))
        land = land[:2] + (land[2] + [],)
        told = fewest(land, signs)
        self.assertIsNot(told.signs, signs)
        told.signs[3] = 99
        told.sets[0].append(99)
        told.sets.append([])
        again = fewest(land, signs)
        self.assertTrue(again.shows(land, signs))
        self.assertEqual((land, signs), (LAND, SIGNS))
        went = followed(land, signs, 3)
        went.places.append(9)
        self.assertEqual(sorted(followed(land, signs, 3).places), [3, 4, 5])

    def test_signs_that_need_no_turning_are_told_anew(self):
        signs = [None, 0]
        told = fewest((2, 0, [(1, 0)]), signs)
        told.signs[1] = None
        self.assertEqual(signs, [None, 0])


if __name__ == "__main__":
    unittest.main()
