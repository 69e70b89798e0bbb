"""Every door answers at once at forty places and 120 roads, also when it is asked many times."""

import unittest
from time import process_time

from signposts.posts import Posts
from signposts.turning import astray, fewest, followed, home_from, worth
from support import ends, wide_lands

# Far more than it takes, so that a slow machine passes and a slow way of counting does not.
SECONDS = 20


class Many(unittest.TestCase):
    def test_many_times(self):
        begun = process_time()
        for land, signs in wide_lands(300, seed=11):
            away = (land[1] + 1) % 40
            followed(land, signs, away).shows(land, signs, away)
            told = fewest(land, signs)
            self.assertTrue(told.shows(land, signs))
            home_from(land, signs)
            worth(land, signs, away)
            astray(land, signs, away, ends(land, away)[0])
            posts = Posts(land)
            for place in range(40):
                if place != land[1]:
                    posts.turn(place, told.signs[place])
            self.assertEqual(posts.turn(away, told.signs[away]), 40)
        self.assertLess(process_time() - begun, SECONDS)


if __name__ == "__main__":
    unittest.main()
