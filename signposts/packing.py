"""Sets at each of which another sign must be turned, and signs that turn no more than that."""

from heapq import heapify, heappop, heappush


def packed(land, signs):
    """Sets, the ways that are free then, and the places that are shut, none if all can come home.

    A free way is a triple: 0 where it is as a sign shows, or k where it leads out of the k-th set,
    from 1; the place that it leads from; and the one that it leads to.
    """
    many, home, roads = land
    ways = [(0, place, sign) for place, sign in enumerate(signs) if sign is not None]
    # A bit for each place to which free ways lead from a place, itself among them.
    reach = [1 << place for place in range(many)]
    for _, start, end in ways:
        reach = joined(reach, start, end)
    sets = []
    while True:
        kept = [bits for bits in reach if not bits >> home & 1]
        if not kept:
            return sets, ways, []
        # The least number has no other one's bits within its own, so from each of its places
        # free ways lead to all the others: homeward() relies on that.
        least = min(kept)
        places = [place for place in range(many) if least >> place & 1]
        out = [(start, end) for start, end in roads if least >> start & 1 and not least >> end & 1]
        if not out:
            return sets, ways, places
        sets.append(places)
        for start, end in out:
            ways.append((len(sets), start, end))
            reach = joined(reach, start, end)


def joined(reach, start, end):
    """What is reached from each place when a way from start to end is free, too."""
    if reach[start] >> end & 1:
        return reach
    gained = reach[end]
    return [bits | gained if bits >> start & 1 else bits for bits in reach]


def homeward(land, ways):
    """Signs along free ways by which all come home, at each step by the way that was free first.

    Each set's places lead to one another by ways that were free before those out of it. So once
    one of them has its sign, the others get theirs by such ways, and one sign alone leads out.
    """
    many, home, _ = land
    before = [[] for _ in range(many)]
    for way in ways:
        before[way[2]].append(way)
    signs = [None] * many
    near = list(before[home])
    heapify(near)
    while near:
        _, start, end = heappop(near)
        if signs[start] is None:
            signs[start] = end
            for way in before[start]:
                heappush(near, way)
    return signs
