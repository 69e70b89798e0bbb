"""Point 4: fewest signs turned so that all come home, or places that are shut."""

import unittest

from signposts.answers import Shut, Turned
from signposts.turning import fewest
from support import LAND, SIGNS, all_roads, comes_home, fewest_by_trying, sets_hold, small_lands, wide_lands

HUGE = 10 ** 60


class Fewest(unittest.TestCase):
    def holds(self, land, signs):
        """Check what is told without the answer's own word, then with it; how many are turned."""
        told = fewest(land, signs)
        self.assertIs(told.shows(land, signs), True)
        if type(told) is Shut:
            self.assertTrue(told.places)
            self.assertNotIn(land[1], told.places)
            for start, end in land[2]:
                self.assertFalse(start in told.places and end not in told.places)
            return None
        self.assertEqual(type(told), Turned)
        self.assertEqual(len(told.signs), land[0])
        self.assertIsNone(told.signs[land[1]])
        for place, sign in enumerate(told.signs):
            self.assertTrue(sign is None or (place, sign) in land[2])
            self.assertIsNotNone(comes_home(land, told.signs, place))
        self.assertTrue(sets_hold(land, signs, told.sets))
        many = sum(1 for k in range(land[0]) if told.signs[k] != signs[k])
        self.assertEqual(len(told.sets), many)
        return many

    def test_nothing_to_turn(self):
        for land, signs in [((1, 0, []), [None]), ((3, 1, [(0, 1), (2, 0)]), [1, None, 0])]:
            told = fewest(land, signs)
            self.assertEqual((type(told), told.signs, told.sets), (Turned, signs, []))

    def test_one_turned(self):
        told = fewest((2, 0, [(1, 0)]), [None, None])
        self.assertEqual((type(told), told.signs, told.sets), (Turned, [None, 0], [[1]]))
        # At 5 the sign of a round is turned, and at 6 one is set.
        told = fewest(LAND, SIGNS)
        self.assertEqual(told.signs, [None, 0, 1, 4, 5, 2, 3])
        self.assertEqual(sorted(sorted(places) for places in told.sets), [[3, 4, 5], [6]])

    def test_shut(self):
        self.assertEqual(fewest((2, 0, []), [None, None]).places, [1])
        self.assertEqual(fewest((2, 0, [(0, 1)]), [None, None]).places, [1])
        land = (4, 0, [(1, 0), (1, 2), (2, 3), (3, 2)])
        told = fewest(land, [None, 0, None, None])
        self.assertEqual((type(told), sorted(set(told.places))), (Shut, [2, 3]))

    def test_no_roads(self):
        for many in [2, 40]:
            self.assertIsNone(self.holds((many, many - 1, []), [None] * many))
        self.assertEqual(self.holds((1, 0, []), [None]), 0)

    def test_no_sign_anywhere(self):
        land = (40, 0, sorted([(k, k - 1) for k in range(1, 40)] + [(k, k + 1) for k in range(39)]))
        self.assertEqual(self.holds(land, [None] * 40), 39)
        self.assertEqual(self.holds(land, [None] + list(range(39))), 0)
        # All signs lead away from home, and the last one back: a round of two at the far end.
        self.assertEqual(self.holds(land, [None] + list(range(2, 40)) + [38]), 38)

    def test_small_lands_by_trying_all(self):
        kinds = {}
        for land, signs in small_lands(1500):
            many = self.holds(land, signs)
            self.assertEqual(many, fewest_by_trying(land, signs))
            kinds[many] = kinds.get(many, 0) + 1
        self.assertTrue(all(kinds.get(many, 0) > 20 for many in [None, 0, 1, 2, 3]))

    def test_wide_lands(self):
        for land, signs in wide_lands(60):
            self.assertIsNotNone(self.holds(land, signs))

    def test_rounds_within_rounds(self):
        # Two rounds of three with roads to one another, and home behind the first of them alone.
        roads = [(1, 2), (2, 0), (2, 3), (3, 1), (3, 4), (4, 5), (5, 6), (6, 1), (6, 4)]
        land = (7, 0, roads)
        self.assertEqual(self.holds(land, [None, 2, 3, 1, 5, 6, 4]), 2)
        self.assertEqual(self.holds(land, [None, 2, 3, 4, 5, 6, 1]), 1)
        self.assertEqual(self.holds(land, [None] * 7), 6)
        roads.remove((2, 0))
        self.assertIsNone(self.holds(land, [None] * 7))


class TurnedShows(unittest.TestCase):
    LAND = (4, 0, [(1, 0), (1, 2), (2, 1), (2, 3), (3, 0), (3, 2)])
    SIGNS = [None, 2, 1, 2]

    def shows(self, signs, sets):
        return Turned(signs, sets).shows(self.LAND, self.SIGNS)

    def test_good_by_hand(self):
        self.assertIs(self.shows([None, 0, 1, 2], [[1, 2]]), True)
        self.assertIs(self.shows([None, 0, 1, 2], [[2, 1]]), True)
        self.assertIs(self.shows([None, 0, 1, 2], [[3, 1, 2]]), True)
        self.assertIs(self.shows([None, 2, 3, 0], [[1, 2]]), False)
        self.assertIs(self.shows([None, 0, 1, 0], [[1, 2], [3, 1, 2]]), False)

    def test_signs_that_are_none(self):
        for signs in [[], [None], [None, 0, 1], [None, 0, 1, 2, None], [0, 0, 1, 2], [None, 3, 1, 2],
                      [None, 0, -3, 2], [None, 0, 1, HUGE], [None, -HUGE, 1, 2], [1, 0, 1, 2],
                      [None, 0, 1, 2] * 100000, [None, [0], 1, 2], [[0], [1]]]:
            with self.subTest(signs[:9]):
                self.assertIs(self.shows(signs, [[1, 2]]), False)

    def test_signs_by_which_one_does_not_come_home(self):
        for signs, sets in [([None, 2, 1, 0], [[1, 2]]), ([None, None, 1, 2], [[1, 2]]),
                            ([None, 2, 1, 2], []), ([None, 0, 1, None], [[1, 2], [3]])]:
            self.assertIs(self.shows(signs, sets), False)

    def test_as_many_sets_as_turned(self):
        good = [None, 0, 1, 2]
        for sets in [[], [[1, 2], [1, 2]], [[1, 2], [1, 2, 3]], [[1, 2], [3]], [[1, 2]] * 100000]:
            self.assertIs(self.shows(good, sets), False)
        told = Turned([None, 0], [[1]])
        self.assertIs(told.shows((2, 0, [(1, 0)]), [None, None]), True)
        self.assertIs(told.shows((2, 0, [(1, 0)]), [None, 0]), False)
        self.assertIs(Turned([None, 0], []).shows((2, 0, [(1, 0)]), [None, 0]), True)

    def test_sets_that_are_none(self):
        good = [None, 0, 1, 2]
        for places in [[], [0], [1, 2, 0], [0, 1, 2, 3], [1, 2, 1], [1, 2, 2], [1, 2, 4], [1, 2, -1],
                       [1, -2], [1, 2, HUGE], [1, 2, -HUGE], [1, 2] * 100000, [1, 2, None], [1, [2]], 1, None]:
            with self.subTest(places):
                self.assertIs(self.shows(good, [places]), False)
        for sets in [1, None, 0, [1], [None], [1, 2]]:
            self.assertIs(self.shows(good, sets), False)

    def test_a_sign_leads_out(self):
        for places in [[1], [2], [3], [1, 3], [2, 3]]:
            self.assertIs(self.shows([None, 0, 1, 2], [places]), False)

    def test_a_road_leads_out_of_two_sets(self):
        land = (3, 0, [(1, 0), (1, 2), (2, 0), (2, 1)])
        signs = [None, None, None]
        good = [None, 0, 1]
        self.assertIs(Turned(good, [[1], [2]]).shows(land, signs), True)
        self.assertIs(Turned(good, [[1], [1, 2]]).shows(land, signs), False)
        self.assertIs(Turned(good, [[1, 2], [1, 2]]).shows(land, signs), False)
        self.assertIs(Turned(good, [[1], [1]]).shows(land, signs), False)

    def test_a_set_within_another(self):
        # From the round of 1 and 2 roads lead but to 3, and so none of them out of both sets.
        land = (4, 0, [(1, 2), (1, 3), (2, 1), (3, 0), (3, 1)])
        signs = [None, 2, 1, 1]
        self.assertIs(Turned([None, 3, 1, 0], [[1, 2], [1, 2, 3]]).shows(land, signs), True)
        self.assertIs(Turned([None, 3, 1, 0], [[3, 1, 2], [2, 1]]).shows(land, signs), True)
        self.assertIs(Turned([None, 3, 1, 0], [[1, 2], [1, 2]]).shows(land, signs), False)

    def test_sets_that_cross(self):
        signs, good = [None, None, None, 2], [None, 0, 1, 2]
        crossing = [[1, 2], [2, 3]]
        roads = [(1, 0), (2, 1), (3, 2)]
        self.assertIs(Turned(good, crossing).shows((4, 0, roads), signs), True)
        # A road out of the one set or the other is no harm, but one out of both from 2 is.
        for more, right in [((0, 2), True), ((1, 3), True), ((2, 3), True), ((3, 1), True), ((2, 0), False)]:
            land = (4, 0, sorted(roads + [more]))
            self.assertIs(Turned(good, crossing).shows(land, signs), right)
            self.assertIs(Turned(good, crossing[::-1]).shows(land, signs), right)
        # A sign from what both share to what one has alone leads out of the other.
        self.assertIs(Turned([None, 0, 1, 2], crossing).shows((4, 0, roads), [None, None, 1, None]), False)

    def test_sets_apart(self):
        land = (5, 0, [(1, 0), (2, 1), (3, 0), (4, 3)])
        signs = [None, None, 1, None, 3]
        good = [None, 0, 1, 0, 3]
        self.assertIs(Turned(good, [[1, 2], [3, 4]]).shows(land, signs), True)
        self.assertIs(Turned(good, [[1], [3]]).shows(land, signs), True)
        self.assertIs(Turned(good, [[1, 3], [3, 4]]).shows(land, signs), False)

    def test_fields_as_they_stand_and_copied(self):
        signs, sets = [None, 0, 1, 2], [[1, 2]]
        told = Turned(signs, sets)
        signs[1] = None
        sets[0].append(0)
        sets.append([3])
        self.assertEqual((told.signs, told.sets), ([None, 0, 1, 2], [[1, 2]]))
        self.assertIs(told.shows(self.LAND, self.SIGNS), True)
        told.sets[0].append(0)
        self.assertIs(told.shows(self.LAND, self.SIGNS), False)
        told.sets[0].pop()
        told.signs[1] = 2
        self.assertIs(told.shows(self.LAND, self.SIGNS), False)
        told.signs = [None, 0, 1, 2]
        self.assertIs(told.shows(self.LAND, self.SIGNS), True)

    def test_asked_of_others(self):
        told = Turned([None, 0, 1, 2], [[1, 2]])
        self.assertIs(told.shows(self.LAND, [None, 0, 1, 2]), False)
        self.assertIs(told.shows(self.LAND, [None, 2, 1, None]), False)
        self.assertIs(told.shows((4, 1, self.LAND[2]), [None, None, 1, 2]), False)
        self.assertIs(told.shows((5, 0, self.LAND[2]), self.SIGNS + [None]), False)
        self.assertIs(told.shows((1, 0, []), [None]), False)
        self.assertIs(told.shows((4, 0, [(1, 2), (2, 1), (3, 2)]), self.SIGNS), False)

    def test_true_is_no_place(self):
        land = (2, 0, [(1, 0)])
        self.assertIs(Turned([None, 0], [[True]]).shows(land, [None, None]), False)
        self.assertIs(Turned([None, False], [[1]]).shows(land, [None, None]), False)

    def test_any_places_in_the_stead_of_a_told_set(self):
        tried = 0
        for land, signs in small_lands(200, seed=9):
            told = fewest(land, signs)
            if type(told) is Turned and told.sets:
                for bits in range(2 ** land[0]):
                    places = [k for k in range(land[0]) if bits >> k & 1]
                    sets = told.sets[:-1] + [places]
                    right = sets_hold(land, signs, sets)
                    self.assertIs(Turned(told.signs, sets).shows(land, signs), right)
                    tried += right
        self.assertGreater(tried, 50)


class ShutShows(unittest.TestCase):
    LAND = (6, 0, [(0, 3), (1, 0), (1, 2), (2, 3), (3, 2), (4, 5)])
    SIGNS = [None, 0, 3, None, None, None]

    def shows(self, places):
        return Shut(places).shows(self.LAND, self.SIGNS)

    def test_shut_places(self):
        for places in [[2, 3], [3, 2], [5], [4, 5], [5, 4], [2, 3, 4, 5], [5, 3, 2]]:
            self.assertIs(self.shows(places), True)

    def test_places_told_twice(self):
        for places in [[5, 5], [2, 3, 2], [3, 2, 3, 2, 5], [5] * 100000]:
            self.assertIs(self.shows(places), True)
        self.assertIs(self.shows([2] * 3), False)

    def test_not_shut(self):
        for places in [[], [2], [3], [4], [1], [0], [0, 2, 3], [1, 2, 3], [4, 2, 3], [0, 1, 2, 3, 4, 5]]:
            self.assertIs(self.shows(places), False)

    def test_no_places(self):
        for places in [[6], [5, 6], [-1], [5, -1], [-4, -3], [HUGE], [5, -HUGE], [None], [[5]], [True], 5, None]:
            with self.subTest(places):
                self.assertIs(self.shows(places), False)

    def test_fields_as_they_stand_and_copied(self):
        places = [2, 3]
        told = Shut(places)
        places.pop()
        self.assertIs(told.shows(self.LAND, self.SIGNS), True)
        told.places.pop()
        self.assertIs(told.shows(self.LAND, self.SIGNS), False)

    def test_asked_of_others(self):
        told = Shut([2, 3])
        self.assertIs(told.shows((6, 2, self.LAND[2]), [None] * 6), False)
        self.assertIs(told.shows((3, 0, []), [None] * 3), False)
        self.assertIs(told.shows((6, 0, [(3, 0)]), [None] * 6), False)
        self.assertIs(told.shows((4, 0, []), [None] * 4), True)
        self.assertIs(Shut([5]).shows((1, 0, []), [None]), False)

    def test_never_both(self):
        for land, signs in small_lands(200, seed=4):
            told = fewest(land, signs)
            for bits in range(2 ** land[0]):
                places = [k for k in range(land[0]) if bits >> k & 1]
                leaves = any(start in places and end not in places for start, end in land[2])
                right = bool(places) and land[1] not in places and not leaves
                self.assertIs(Shut(places).shows(land, signs), right)
                if right:
                    self.assertEqual(type(told), Shut)


class ManyRoads(unittest.TestCase):
    def test_all_roads_of_eleven_places(self):
        land = (11, 4, all_roads(11))
        told = fewest(land, [None] * 11)
        self.assertEqual(len(told.sets), 10)
        self.assertTrue(told.shows(land, [None] * 11))


if __name__ == "__main__":
    unittest.main()
