"""Who comes home by the signs, what a sign is worth, and the fewest to be turned."""

from signposts.answers import Home, Round, Shut, Stands, Turned
from signposts.lands import need_away, need_land, need_place, need_road, need_signs
from signposts.packing import homeward, packed
from signposts.ways import coming, places_coming, walked


def followed(land, signs, place):
    """A Home, a Round or a Stands: where one comes from the place."""
    need_walk(land, signs, place)
    way, begin = walked(signs, place)
    if begin is not None:
        return Round(way[begin:])
    if way[-1] == land[1]:
        return Home(len(way) - 1)
    return Stands(way[-1])


def fewest(land, signs):
    """A Turned or a Shut: the fewest signs turned so that all come home, or who never can."""
    need_land(land)
    need_signs(land, signs)
    sets, ways, shut = packed(land, signs)
    if shut:
        return Shut(shut)
    return Turned(homeward(land, ways), sets)


def home_from(land, signs):
    """The places from which one comes home, rising."""
    need_land(land)
    need_signs(land, signs)
    return places_coming(signs, land[1])


def worth(land, signs, place):
    """From how many places one comes home by this one, itself counted if one does."""
    need_walk(land, signs, place)
    if not coming(signs, land[1])[place]:
        return 0
    return len(places_coming(signs, place))


def astray(land, signs, place, sign):
    """From which places one comes home no more if this sign, or none, stands there, rising."""
    need_walk(land, signs, place)
    need_away(land, place)
    if sign is not None:
        need_road(land, place, sign)
    anew = list(signs)
    anew[place] = sign
    still = coming(anew, land[1])
    return [start for start in places_coming(signs, land[1]) if not still[start]]


def need_walk(land, signs, place):
    need_land(land)
    need_signs(land, signs)
    need_place(land, place)
