"""What is told, and whether it is as the document says of a land and its signs."""

from signposts.lands import are_signs, is_number, is_place
from signposts.ways import coming, walked


class Answer:
    """What is told of a land and its signs."""


class Home(Answer):
    """One comes home in so many steps."""

    def __init__(self, steps):
        self.steps = copied(steps)

    def shows(self, land, signs, place):
        # No round goes through home, where no sign stands.
        way, _ = walked(signs, place)
        if way[-1] != land[1]:
            return False
        return is_number(self.steps) and self.steps == len(way) - 1


class Round(Answer):
    """One never comes home and goes through these places again and again."""

    def __init__(self, places):
        self.places = copied(places)

    def shows(self, land, signs, place):
        way, begin = walked(signs, place)
        if begin is None:
            return False
        return is_same_round(self.places, way[begin:])


class Stands(Answer):
    """One comes to this place, which is not home, where no sign stands."""

    def __init__(self, place):
        self.place = copied(place)

    def shows(self, land, signs, place):
        way, begin = walked(signs, place)
        if begin is not None or way[-1] == land[1]:
            return False
        return is_number(self.place) and self.place == way[-1]


class Turned(Answer):
    """Signs by which all come home, and sets that tell why no fewer can be turned."""

    def __init__(self, signs, sets):
        self.signs = copied(signs)
        self.sets = copied(sets)

    def shows(self, land, signs):
        if not are_signs(land, self.signs) or not all(coming(self.signs, land[1])):
            return False
        others = [place for place, sign in enumerate(signs) if self.signs[place] != sign]
        # How many sets there are is asked first: there may be very many of them.
        if not isinstance(self.sets, list) or len(self.sets) != len(others):
            return False
        if not all([is_kept_set(land, signs, places) for places in self.sets]):
            return False
        return no_road_leaves_two(land, self.sets)


class Shut(Answer):
    """No road leads from these places to another one, and home is not among them."""

    def __init__(self, places):
        self.places = copied(places)

    def shows(self, land, signs):
        many, home, roads = land
        if not isinstance(self.places, list) or not self.places:
            return False
        within = [False] * many
        for place in self.places:
            if not is_place(many, place):
                return False
            within[place] = True
        if within[home]:
            return False
        return all([within[end] or not within[start] for start, end in roads])


def copied(field):
    """A list anew, with the lists within it; what is no list as it is."""
    if not isinstance(field, list):
        return field
    return [list(part) if isinstance(part, list) else part for part in field]


def is_same_round(places, gone):
    if not isinstance(places, list) or len(places) != len(gone):
        return False
    if not all([is_number(place) for place in places]):
        return False
    return any([places == gone[k:] + gone[:k] for k in range(len(gone))])


def is_kept_set(land, signs, places):
    """Whether it is a set of places, without home, from which none of the signs leads out."""
    many, home, _ = land
    # Each once and without home, they are fewer than all the places.
    if not isinstance(places, list) or not 0 < len(places) < many:
        return False
    within = [False] * many
    for place in places:
        if not is_place(many, place) or within[place]:
            return False
        within[place] = True
    if within[home]:
        return False
    return all([signs[place] is None or within[signs[place]] for place in places])


def no_road_leaves_two(land, sets):
    many, _, roads = land
    # A bit for each set that a place is in.
    bits = [0] * many
    for k, places in enumerate(sets):
        for place in places:
            bits[place] |= 1 << k
    for start, end in roads:
        left = bits[start] & ~bits[end]
        if left & (left - 1):
            return False
    return True
