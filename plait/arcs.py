"""Arcs: the ways of the walks between under passages, and where they meet at crossings."""

from plait.drawings import spot


def arcs(drawing):
    told = []
    first = 0
    for walk in drawing[0]:
        told.append(arcs_of_ways(walk, first))
        first += arcs_of_walk(walk)
    return told


def arc_count(drawing):
    return sum([arcs_of_walk(walk) for walk in drawing[0]])


def arcs_of_walk(walk):
    unders = [passage for passage in walk if passage < 0]
    return max(len(unders), 1)


def arcs_of_ways(walk, first):
    number = arcs_of_walk(walk)
    unders = 0
    ways = [first]
    for passage in walk[:-1]:
        if passage < 0:
            unders += 1
        # Behind the walk's last under passage the arc leads round into way 0, so the count begins anew.
        ways.append(first + unders % number)
    return ways


def meets(drawing):
    numbers = arcs(drawing)
    told = []
    for crossing, sign in drawing[1]:
        above = spot(drawing, crossing)
        below = spot(drawing, -crossing)
        over = numbers[above[0]][above[1]]
        ways = numbers[below[0]]
        inward = ways[below[1]]
        outward = ways[(below[1] + 1) % len(ways)]
        told.append((crossing, sign, over, inward, outward))
    return told
