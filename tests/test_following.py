"""Point 3: who comes home, goes round or stands."""

import unittest

from signposts.answers import Home, Round, Stands
from signposts.turning import followed
from support import LAND, SIGNS, comes_home, passed, small_lands

HUGE = 10 ** 60


class Followed(unittest.TestCase):
    def told(self, land, signs, place, kind, field, value):
        answer = followed(land, signs, place)
        self.assertEqual(type(answer), kind)
        self.assertEqual(getattr(answer, field), value)
        self.assertIs(answer.shows(land, signs, place), True)

    def test_home(self):
        self.told(LAND, SIGNS, 0, Home, "steps", 0)
        self.told(LAND, SIGNS, 1, Home, "steps", 1)
        self.told(LAND, SIGNS, 2, Home, "steps", 2)
        self.told((1, 0, []), [None], 0, Home, "steps", 0)

    def test_stands(self):
        self.told(LAND, SIGNS, 6, Stands, "place", 6)
        self.told(LAND, [None, 2, 3, 4, None, 3, 3], 1, Stands, "place", 4)
        self.told((2, 1, []), [None, None], 0, Stands, "place", 0)

    def test_round(self):
        for place in [3, 4, 5]:
            answer = followed(LAND, SIGNS, place)
            self.assertEqual(type(answer), Round)
            self.assertIn(answer.places, [[3, 4, 5], [4, 5, 3], [5, 3, 4]])
        # Who comes to a round from without goes through its places alone again and again.
        signs = [None, 2, 3, 4, 5, 3, 3]
        for place in [1, 2, 6]:
            answer = followed(LAND, signs, place)
            self.assertEqual(sorted(answer.places), [3, 4, 5])
            self.assertTrue(answer.shows(LAND, signs, place))
        answer = followed(LAND, [None, 2, 1, None, None, None, None], 2)
        self.assertEqual(sorted(answer.places), [1, 2])

    def test_forty_places(self):
        land = (40, 39, [(k, k + 1) for k in range(39)])
        signs = list(range(1, 40)) + [None]
        for place in range(40):
            self.told(land, signs, place, Home, "steps", 39 - place)
        signs[20] = None
        self.told(land, signs, 3, Stands, "place", 20)
        land = (40, 0, [(k, k + 1) for k in range(1, 39)] + [(39, 1)])
        signs = [None] + list(range(2, 40)) + [1]
        answer = followed(land, signs, 17)
        at = answer.places.index(1)
        self.assertEqual(answer.places[at:] + answer.places[:at], list(range(1, 40)))

    def test_small_lands(self):
        for land, signs in small_lands(600):
            for place in range(land[0]):
                answer = followed(land, signs, place)
                steps = comes_home(land, signs, place)
                gone = passed(signs, place, 2 * land[0])
                if steps is not None:
                    self.assertEqual((type(answer), answer.steps), (Home, steps))
                elif len(gone) < 2 * land[0]:
                    self.assertEqual((type(answer), answer.place), (Stands, gone[-1]))
                else:
                    self.assertEqual(type(answer), Round)
                    many = len(answer.places)
                    self.assertEqual(set(answer.places), set(gone[land[0]:]))
                    self.assertEqual(many, len(set(answer.places)))
                    for k in range(many):
                        self.assertEqual(signs[answer.places[k]], answer.places[(k + 1) % many])
                self.assertTrue(answer.shows(land, signs, place))


class Shows(unittest.TestCase):
    def test_home_by_hand(self):
        for steps in range(-3, 5):
            self.assertIs(Home(steps).shows(LAND, SIGNS, 2), steps == 2)
            self.assertIs(Home(steps).shows(LAND, SIGNS, 0), steps == 0)
            # From 3 one goes round, and at 6 one stands, in no number of steps at home.
            self.assertIs(Home(steps).shows(LAND, SIGNS, 3), False)
            self.assertIs(Home(steps).shows(LAND, SIGNS, 6), False)
        self.assertIs(Home(HUGE).shows(LAND, SIGNS, 2), False)
        self.assertIs(Home(-HUGE).shows(LAND, SIGNS, 2), False)

    def test_stands_by_hand(self):
        for place in [-7, -1, 0, 1, 5, 6, 7, HUGE, -HUGE]:
            self.assertIs(Stands(place).shows(LAND, SIGNS, 6), place == 6)
            self.assertIs(Stands(place).shows(LAND, SIGNS, 3), False)
            # At home no sign stands, but there one is at home.
            self.assertIs(Stands(place).shows(LAND, SIGNS, 0), False)
            self.assertIs(Stands(place).shows(LAND, SIGNS, 2), False)

    def test_a_round_begun_at_any_of_its_places(self):
        for places in [[3, 4, 5], [4, 5, 3], [5, 3, 4]]:
            for place in [3, 4, 5]:
                self.assertIs(Round(places).shows(LAND, SIGNS, place), True)
        signs = [None, 2, 3, 4, 5, 3, 3]
        self.assertIs(Round([4, 5, 3]).shows(LAND, signs, 1), True)

    def test_no_round(self):
        wrong = [[], [3], [3, 4], [4, 3], [3, 5, 4], [5, 4, 3], [3, 4, 5, 3], [3, 4, 5] * 2, [2, 3, 4, 5]]
        wrong += [[3, 4, 4], [3, 4, -2], [-4, -3, -2], [3, 4, HUGE], [HUGE] * 3, [10, 11, 12]]
        wrong += [[3, 4, None], [None] * 3, [[3], [4], [5]], [[3, 4, 5]], [3, 4, 5] * 100000]
        for places in wrong:
            with self.subTest(places[:9]):
                self.assertIs(Round(places).shows(LAND, SIGNS, 3), False)
        for places in [[3, 4, 5], [0], [0, 1], [2, 1, 0], [6], []]:
            for place in [0, 2, 6]:
                self.assertIs(Round(places).shows(LAND, SIGNS, place), False)

    def test_a_round_that_one_does_not_come_to(self):
        land = (5, 0, [(1, 2), (2, 1), (3, 4), (4, 3)])
        signs = [None, 2, 1, 4, 3]
        self.assertIs(Round([3, 4]).shows(land, signs, 1), False)
        self.assertIs(Round([1, 2]).shows(land, signs, 1), True)
        self.assertIs(Round([1, 2, 3, 4]).shows(land, signs, 1), False)

    def test_true_and_false_are_no_numbers(self):
        self.assertIs(Home(True).shows(LAND, SIGNS, 1), False)
        self.assertIs(Home(False).shows(LAND, SIGNS, 0), False)
        land = (3, 2, [(0, 1), (1, 0)])
        self.assertIs(Round([False, True]).shows(land, [1, 0, None], 0), False)
        self.assertIs(Stands(True).shows(land, [1, None, None], 0), False)

    def test_fields_of_other_kinds(self):
        for field in [None, [], [2], [[6]], [[]], 7, -HUGE]:
            for kind in [Home, Round, Stands]:
                for place in range(7):
                    self.assertIs(kind(field).shows(LAND, SIGNS, place), False)

    def test_fields_as_they_stand_when_asked(self):
        answer = followed(LAND, SIGNS, 2)
        answer.steps = 1
        self.assertIs(answer.shows(LAND, SIGNS, 2), False)
        self.assertIs(answer.shows(LAND, SIGNS, 1), True)
        answer = followed(LAND, SIGNS, 6)
        answer.place = 5
        self.assertIs(answer.shows(LAND, SIGNS, 6), False)
        answer = followed(LAND, SIGNS, 3)
        answer.places.append(answer.places.pop(0))
        self.assertIs(answer.shows(LAND, SIGNS, 3), True)
        answer.places.pop()
        self.assertIs(answer.shows(LAND, SIGNS, 3), False)

    def test_asked_of_others(self):
        answer = followed(LAND, SIGNS, 2)
        self.assertIs(answer.shows(LAND, [None, 0, 3, 4, 5, 2, 3], 2), False)
        self.assertIs(answer.shows((7, 1, LAND[2]), [1, None, 1, 4, 5, 3, None], 2), False)
        self.assertIs(answer.shows((7, 1, LAND[2]), [1, None, 1, 4, 5, 2, None], 5), True)
        self.assertIs(followed(LAND, SIGNS, 6).shows((7, 6, LAND[2]), SIGNS[:6] + [None], 6), False)
        self.assertIs(followed(LAND, SIGNS, 3).shows((1, 0, []), [None], 0), False)

    def test_fields_are_copied(self):
        places = [3, 4, 5]
        answer = Round(places)
        places.reverse()
        self.assertEqual(answer.places, [3, 4, 5])
        self.assertTrue(answer.shows(LAND, SIGNS, 3))

    def test_only_what_is_told_shows(self):
        for land, signs in small_lands(150, seed=5):
            many = land[0]
            for place in range(many):
                told = followed(land, signs, place)
                for k in range(-1, many + 1):
                    is_home = type(told) is Home and told.steps == k
                    self.assertIs(Home(k).shows(land, signs, place), is_home)
                    stands = type(told) is Stands and told.place == k
                    self.assertIs(Stands(k).shows(land, signs, place), stands)
                    gone = passed(signs, k, many) if 0 <= k < many else [k]
                    right = type(told) is Round and k in told.places and len(gone) >= len(told.places)
                    cut = gone[:len(told.places)] if type(told) is Round else gone
                    self.assertIs(Round(cut).shows(land, signs, place), right)


if __name__ == "__main__":
    unittest.main()
