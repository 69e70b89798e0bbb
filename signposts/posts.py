"""A land's posts, at which signs are set, turned and lost."""

from signposts.errors import NoSign
from signposts.lands import need_away, need_land, need_place, need_road
from signposts.ways import places_coming


class Posts:
    """The posts of a land, at which no sign stands at first."""

    def __init__(self, land):
        need_land(land)
        many, home, roads = land
        # The asker may change the list of roads later on.
        self._land = (many, home, list(roads))
        self._signs = [None] * many
        self._turns = 0

    def turn(self, place, sign):
        """Set or turn a sign along a road; from how many places one comes home then."""
        need_place(self._land, place)
        need_away(self._land, place)
        need_road(self._land, place, sign)
        if self._signs[place] != sign:
            self._turns += 1
        self._signs[place] = sign
        return len(places_coming(self._signs, self._land[1]))

    def lose(self, place):
        """Lose the sign that stands there; what it showed."""
        need_place(self._land, place)
        need_away(self._land, place)
        shown = self._signs[place]
        if shown is None:
            raise NoSign("no sign stands there")
        self._signs[place] = None
        return shown

    def all_signs(self):
        return list(self._signs)

    def turned(self):
        """How often a sign was set, or turned to another place than it showed."""
        return self._turns
