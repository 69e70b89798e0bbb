"""Point 6: a land's posts, deed by deed."""

import unittest
from random import Random

from signposts.errors import AtHome, BadPlace, BadRoad, NoSign
from signposts.posts import Posts
from signposts.turning import home_from
from support import LAND, all_roads, ends, some_land


class Deeds(unittest.TestCase):
    def test_at_first(self):
        posts = Posts(LAND)
        self.assertEqual(posts.all_signs(), [None] * 7)
        self.assertEqual(posts.turned(), 0)
        self.assertEqual(Posts((1, 0, [])).all_signs(), [None])

    def test_deeds(self):
        posts = Posts(LAND)
        self.assertEqual(posts.turn(2, 1), 1)
        self.assertEqual(posts.turn(1, 0), 3)
        self.assertEqual(posts.turn(5, 3), 3)
        self.assertEqual(posts.turn(3, 4), 3)
        self.assertEqual(posts.turn(4, 5), 3)
        self.assertEqual(posts.turned(), 5)
        self.assertEqual(posts.turn(5, 2), 6)
        self.assertEqual(posts.all_signs(), [None, 0, 1, 4, 5, 2, None])
        self.assertEqual(posts.turned(), 6)
        self.assertEqual(posts.lose(2), 1)
        self.assertEqual(posts.all_signs(), [None, 0, None, 4, 5, 2, None])
        self.assertEqual(posts.turned(), 6)
        self.assertEqual(posts.turn(6, 3), 2)
        self.assertEqual(posts.turn(2, 1), 7)
        self.assertEqual(posts.turned(), 8)

    def test_turned_to_where_it_shows_already(self):
        posts = Posts(LAND)
        self.assertEqual(posts.turn(1, 0), 2)
        self.assertEqual(posts.turn(1, 0), 2)
        self.assertEqual(posts.turned(), 1)
        posts.turn(1, 2)
        posts.turn(1, 0)
        self.assertEqual(posts.turned(), 3)
        self.assertEqual(posts.lose(1), 0)
        self.assertEqual(posts.turn(1, 0), 2)
        self.assertEqual(posts.turned(), 4)

    def test_a_sign_to_place_nought(self):
        # Nought is a place like another, not the lack of a sign.
        posts = Posts((2, 1, [(0, 1)]))
        self.assertEqual(posts.turn(0, 1), 2)
        posts = Posts((3, 2, [(0, 2), (1, 0)]))
        self.assertEqual(posts.turn(1, 0), 1)
        self.assertEqual(posts.turn(0, 2), 3)
        self.assertEqual(posts.lose(1), 0)

    def test_two_posts_are_apart(self):
        one, other = Posts(LAND), Posts(LAND)
        one.turn(1, 0)
        self.assertEqual(other.all_signs(), [None] * 7)
        self.assertEqual(other.turned(), 0)

    def test_against_a_plain_book_of_deeds(self):
        rng = Random(12)
        for times in range(30):
            many = rng.choice([1, 2, 4, 7, 40])
            land = some_land(rng, many, rng.choice([0, 3, 10, 120]))
            posts, signs, turned = Posts(land), [None] * many, 0
            for _ in range(80):
                place, sign = rng.randrange(-1, many + 1), rng.randrange(-1, many + 1)
                if rng.randrange(2) and 0 <= place < many:
                    sign = rng.choice(ends(land, place) or [sign])
                if rng.randrange(4):
                    told = self.turn(land, signs, place, sign)
                    if type(told) is int:
                        turned += signs[place] != sign
                        signs[place] = sign
                        told = len(home_from(land, signs))
                    self.same(posts.turn, (place, sign), told)
                else:
                    told = self.lose(land, signs, place)
                    self.same(posts.lose, (place,), told)
                    if type(told) is int:
                        signs[place] = None
                self.assertEqual(posts.all_signs(), signs)
                self.assertEqual(posts.turned(), turned)

    def turn(self, land, signs, place, sign):
        if not 0 <= place < land[0]:
            return BadPlace
        if place == land[1]:
            return AtHome
        return 0 if sign in ends(land, place) else BadRoad

    def lose(self, land, signs, place):
        if not 0 <= place < land[0]:
            return BadPlace
        if place == land[1]:
            return AtHome
        return NoSign if signs[place] is None else signs[place]

    def same(self, door, given, told):
        if type(told) is int:
            self.assertEqual(door(*given), told)
        else:
            with self.assertRaises(told):
                door(*given)

    def test_forty_places(self):
        land = (40, 0, sorted((k, k - 1) for k in range(1, 40)))
        posts = Posts(land)
        for k in range(39, 1, -1):
            self.assertEqual(posts.turn(k, k - 1), 1)
        self.assertEqual(posts.turn(1, 0), 40)
        self.assertEqual(posts.turned(), 39)
        posts = Posts((40, 0, all_roads(40)[:120]))
        self.assertEqual(posts.turn(1, 0), 2)
        self.assertEqual(posts.turn(2, 1), 3)


if __name__ == "__main__":
    unittest.main()
