"""Point 5: from where one comes home, what a sign is worth, and who is astray."""

import unittest

from signposts.turning import astray, home_from, worth
from support import LAND, SIGNS, comes_home, ends, passed, small_lands, wide_lands


class HomeFrom(unittest.TestCase):
    def test_ordinary(self):
        self.assertEqual(home_from(LAND, SIGNS), [0, 1, 2])
        self.assertEqual(home_from(LAND, [None] * 7), [0])
        self.assertEqual(home_from(LAND, [None, 0, 1, 4, 5, 2, 3]), [0, 1, 2, 3, 4, 5, 6])
        self.assertEqual(home_from((3, 2, [(0, 2), (2, 0)]), [2, None, None]), [0, 2])

    def test_edges(self):
        self.assertEqual(home_from((1, 0, []), [None]), [0])
        land = (40, 39, [(k, k + 1) for k in range(39)])
        self.assertEqual(home_from(land, list(range(1, 40)) + [None]), list(range(40)))
        self.assertEqual(home_from(land, [None] * 40), [39])

    def test_small_lands(self):
        for land, signs in small_lands(600, seed=6):
            right = [k for k in range(land[0]) if comes_home(land, signs, k) is not None]
            self.assertEqual(home_from(land, signs), right)


class Worth(unittest.TestCase):
    def test_ordinary(self):
        signs = [None, 0, 1, 4, 5, 2, None]
        self.assertEqual([worth(LAND, signs, k) for k in range(7)], [6, 5, 4, 1, 2, 3, 0])
        self.assertEqual([worth(LAND, SIGNS, k) for k in range(7)], [3, 2, 1, 0, 0, 0, 0])

    def test_edges(self):
        self.assertEqual(worth((1, 0, []), [None], 0), 1)
        self.assertEqual(worth((2, 0, []), [None, None], 1), 0)
        # From 2 and 3 one comes to 1, but from there not home.
        land = (4, 0, [(1, 0), (2, 1), (3, 1)])
        self.assertEqual(worth(land, [None, None, 1, 1], 1), 0)
        self.assertEqual(worth(land, [None, 0, 1, 1], 1), 3)
        self.assertEqual(worth(land, [None, 0, 1, None], 1), 2)

    def test_small_lands(self):
        for land, signs in small_lands(600, seed=7):
            for place in range(land[0]):
                right = sum(1 for k in range(land[0]) if comes_home(land, signs, k) is not None
                            and place in passed(signs, k, land[0]))
                self.assertEqual(worth(land, signs, place), right)


class Astray(unittest.TestCase):
    def test_ordinary(self):
        signs = [None, 0, 1, 4, 5, 2, 3]
        self.assertEqual(astray(LAND, signs, 2, None), [2, 3, 4, 5, 6])
        self.assertEqual(astray(LAND, signs, 2, 3), [2, 3, 4, 5, 6])
        self.assertEqual(astray(LAND, signs, 5, 3), [3, 4, 5, 6])
        self.assertEqual(astray(LAND, signs, 6, None), [6])
        self.assertEqual(astray(LAND, signs, 1, 2), [1, 2, 3, 4, 5, 6])

    def test_edges(self):
        signs = [None, 0, 1, 4, 5, 2, 3]
        # The sign that stands there already, and a way home that is another one.
        self.assertEqual(astray(LAND, signs, 5, 2), [])
        land = (4, 0, [(1, 0), (2, 0), (2, 1), (3, 2)])
        self.assertEqual(astray(land, [None, 0, 1, 2], 2, 0), [])
        # Who did not come home before comes home no less; nor is one told who comes home now.
        self.assertEqual(astray(LAND, SIGNS, 5, 2), [])
        self.assertEqual(astray(LAND, SIGNS, 5, None), [])
        self.assertEqual(astray(LAND, SIGNS, 6, None), [])
        self.assertEqual(astray(LAND, SIGNS, 6, 3), [])
        self.assertEqual(astray((2, 1, [(0, 1)]), [1, None], 0, None), [0])

    def test_small_lands(self):
        for land, signs in small_lands(400, seed=8):
            for place in range(land[0]):
                if place != land[1]:
                    for sign in [None] + ends(land, place):
                        anew = signs[:place] + [sign] + signs[place + 1:]
                        right = [k for k in range(land[0]) if comes_home(land, signs, k) is not None
                                 and comes_home(land, anew, k) is None]
                        self.assertEqual(astray(land, signs, place, sign), right)

    def test_wide_lands(self):
        for land, signs in wide_lands(5):
            for place in range(land[0]):
                if place != land[1]:
                    self.assertEqual(len(astray(land, signs, place, None)), worth(land, signs, place))


if __name__ == "__main__":
    unittest.main()
