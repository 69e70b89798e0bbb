"""Lands, signs and slow but plain answers for the tests."""

from itertools import product
from random import Random

# What is no number, no place and no sign, whatever the land.
NO_NUMBERS = ["1", "", b"1", [], [1], (), (1,), {}, {1}, object(), True, False, 1j, range(2)]

# Home is 0. From 1 and 2 one can come home; 3, 4 and 5 go round; 6 stands.
LAND = (7, 0, [(0, 1), (1, 0), (1, 2), (2, 1), (2, 3), (3, 4), (4, 5), (5, 2), (5, 3), (6, 3)])
SIGNS = [None, 0, 1, 4, 5, 3, None]


def bad_lands():
    """What is no land, in its count, its home, its roads or altogether."""
    out = list(NO_NUMBERS) + [None, 3, -1]
    out += [(), (2, 0), (2, 0, [], []), [2, 0, []], "abc", {2: 0}]
    out += [(many, 0, []) for many in NO_NUMBERS + [None, 0, -1, 41, 10 ** 40]]
    out += [(2, home, []) for home in NO_NUMBERS + [None, -1, 2, 10 ** 40]]
    no_lists = [None, 0, True, (), ((0, 1),), "", {}, {(0, 1): 1}, set(), b"", range(0)]
    out += [(2, 0, roads) for roads in no_lists]
    no_pairs = [None, 0, True, "01", b"01", [0, 1], (), (0,), (0, 1, 0), {0, 1}, {0: 1}]
    out += [(2, 0, [pair]) for pair in no_pairs]
    out += [(2, 0, [(end, 1)]) for end in NO_NUMBERS + [None, -1, 2, 10 ** 40]]
    out += [(2, 0, [(0, end)]) for end in NO_NUMBERS + [None, -1, 2, 10 ** 40]]
    out += [(2, 0, [(0, 0)]), (2, 0, [(1, 1)])]
    out += [(3, 0, [(0, 1), (0, 1)]), (3, 0, [(1, 0), (0, 1)]), (3, 0, [(0, 2), (0, 1)])]
    out += [(3, 0, [(0, 1), (0, 2), None]), (3, 0, [(0, 1), (2, 1), (1, 2)])]
    out += [(40, 0, all_roads(40)[:121]), (41, 0, all_roads(41)[:120])]
    return out


def bad_signs(land):
    """What are no signs of the land, whose place 1 has roads to 0 and 2, and whose home is 0."""
    many = land[0]
    none = [None] * many
    out = list(NO_NUMBERS) + [None, 0, tuple(none), {k: None for k in range(many)}]
    out += [none[1:], none + [None], none * 2]
    for sign in NO_NUMBERS + [1, 3, -1, many, 10 ** 40]:
        out.append([None, sign] + none[2:])
    for sign in NO_NUMBERS + [0, 1, 2]:
        out.append([sign] + none[1:])
    return out


def bad_places(many):
    return list(NO_NUMBERS) + [None, -1, many, -many, 10 ** 40, -10 ** 40]


def all_roads(many):
    return [(start, end) for start in range(many) for end in range(many) if start != end]


def ends(land, place):
    return [end for start, end in land[2] if start == place]


def some_land(rng, many, roads):
    every = all_roads(many)
    return many, rng.randrange(many), sorted(rng.sample(every, min(roads, len(every))))


def some_signs(rng, land, percent):
    many, home, _ = land
    signs = [None] * many
    for place in range(many):
        choice = ends(land, place)
        if place != home and choice and rng.randrange(100) < percent:
            signs[place] = rng.choice(choice)
    return signs


def small_lands(times, seed=1):
    """Lands of a few places, with signs, the same ones each time."""
    rng = Random(seed)
    for _ in range(times):
        land = some_land(rng, rng.randint(1, 6), rng.randint(0, 13))
        yield land, some_signs(rng, land, rng.choice([0, 40, 80, 100]))


def wide_lands(times, seed=2):
    """Lands of forty places and 120 roads, with a road both ways along a line through them all."""
    rng = Random(seed)
    for _ in range(times):
        line = list(range(40))
        rng.shuffle(line)
        roads = {pair for k in range(39) for pair in [(line[k], line[k + 1]), (line[k + 1], line[k])]}
        rest = [pair for pair in all_roads(40) if pair not in roads]
        roads |= set(rng.sample(rest, 120 - len(roads)))
        land = (40, line[rng.randrange(40)], sorted(roads))
        yield land, some_signs(rng, land, rng.choice([0, 50, 100]))


def every_signs(land):
    many, home, _ = land
    return product(*[[None] + (ends(land, place) if place != home else []) for place in range(many)])


def comes_home(land, signs, place):
    """In how many steps one comes home, or None: as many steps as places are enough."""
    for steps in range(land[0]):
        if place == land[1]:
            return steps
        if signs[place] is None:
            return None
        place = signs[place]
    return None


def passed(signs, place, many):
    """All places that one is at within the first steps, as many as there are places."""
    out = []
    while place is not None and len(out) < many:
        out.append(place)
        place = signs[place]
    return out


def fewest_by_trying(land, signs):
    """How many signs must be turned, tried over all signs, or None."""
    best = None
    for tried in every_signs(land):
        if all(comes_home(land, tried, place) is not None for place in range(land[0])):
            many = sum(1 for k in range(land[0]) if tried[k] != signs[k])
            if best is None or many < best:
                best = many
    return best


def sets_hold(land, signs, sets):
    """Whether the sets are as point 4 has them, counted anew and plainly."""
    for places in sets:
        if not places or len(set(places)) != len(places) or land[1] in places:
            return False
        if not all(0 <= place < land[0] for place in places):
            return False
        if any(signs[place] is not None and signs[place] not in places for place in places):
            return False
    for start, end in land[2]:
        if sum(1 for places in sets if start in places and end not in places) > 1:
            return False
    return True
