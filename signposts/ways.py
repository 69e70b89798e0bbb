"""Where signs lead who follows them."""


def walked(signs, place):
    """The places gone through, each once, and which of them, counted from 0, a round begins at, or None."""
    met = {}
    at = place
    while at is not None and at not in met:
        met[at] = len(met)
        at = signs[at]
    if at is None:
        return list(met), None
    return list(met), met[at]


def coming(signs, goal):
    """For each place whether one comes from it to the goal, where one stops."""
    known = [None] * len(signs)
    known[goal] = True
    for place in range(len(signs)):
        way = []
        at = place
        while at is not None and known[at] is None:
            # Whoever meets this again on the same way goes round and never comes.
            known[at] = False
            way.append(at)
            at = signs[at]
        if at is not None and known[at]:
            for gone in way:
                known[gone] = True
    return known


def places_coming(signs, goal):
    return [place for place, comes in enumerate(coming(signs, goal)) if comes]
