"""What a land, its places and its signs are, and how all else is refused."""

from signposts.errors import AtHome, BadLand, BadPlace, BadRoad, BadSigns

MOST_PLACES = 40
MOST_ROADS = 120


def is_number(given):
    # To Python True and False are integers; here they are no numbers.
    return isinstance(given, int) and not isinstance(given, bool)


def is_place(many, given):
    return is_number(given) and 0 <= given < many


def is_road(many, given):
    if not isinstance(given, tuple) or len(given) != 2:
        return False
    start, end = given
    return is_place(many, start) and is_place(many, end) and start != end


def are_roads(many, given):
    if not isinstance(given, list) or len(given) > MOST_ROADS:
        return False
    if not all([is_road(many, road) for road in given]):
        return False
    return all([given[k] < given[k + 1] for k in range(len(given) - 1)])


def is_land(given):
    if not isinstance(given, tuple) or len(given) != 3:
        return False
    many, home, roads = given
    if not is_number(many) or not 1 <= many <= MOST_PLACES:
        return False
    return is_place(many, home) and are_roads(many, roads)


def are_signs(land, given):
    many, home, roads = land
    if not isinstance(given, list) or len(given) != many or given[home] is not None:
        return False
    known = set(roads)
    for place, sign in enumerate(given):
        if sign is not None and not (is_place(many, sign) and (place, sign) in known):
            return False
    return True


def need_land(land):
    if not is_land(land):
        raise BadLand("this is no land")


def need_signs(land, signs):
    if not are_signs(land, signs):
        raise BadSigns("these are no signs of the land")


def need_place(land, place):
    if not is_place(land[0], place):
        raise BadPlace("this is no place of the land")


def need_away(land, place):
    if place == land[1]:
        raise AtHome("at home no sign is turned or lost")


def need_road(land, place, end):
    many, _, roads = land
    if not is_place(many, end) or (place, end) not in roads:
        raise BadRoad("no road leads from the place to it")
