"""Carrying: what becomes of a colouring by a move."""

from plait.colours import gathered, refuse_unfit, spread
from plait.drawings import sign_of
from plait.moves import bare_over_place, done, pair_at
from plait.shapes import begun_later
from plait.tables import back, by


def carried(drawing, move, table, colours):
    after = done(drawing, move)
    refuse_unfit(drawing, table, colours)
    return gathered(after, carried_ways(drawing, move, table, spread(drawing, colours)))


def carried_ways(drawing, move, table, ways):
    word = move[0]
    if word == "turn":
        return with_ways(ways, move[1], begun_later(ways[move[1]], move[2]))
    if word == "curl":
        return curled_ways(drawing, move, ways)
    if word == "uncurl":
        return cut_ways(ways, move[1], move[2])
    if word == "lay":
        return laid_ways(drawing, move, table, ways)
    if word == "unlay":
        left = cut_ways(ways, move[3], move[4])
        return cut_ways(left, move[1], bare_over_place(move))
    return passed_ways(drawing, move, table, ways)


def with_ways(ways, at, changed):
    told = list(ways)
    told[at] = changed
    return told


def cut_ways(ways, at, place):
    own = ways[at]
    left = own[:place] + own[place + 2:]
    # In a walk of the pair alone no way would be left: there the way to the pair stays.
    return with_ways(ways, at, left if len(left) > 0 else own[:1])


def parted_ways(own, bare, place, inner):
    # The one way of a bare walk becomes the way to the pair, none is left beside it.
    kept = [] if bare else own
    return kept[:place] + [way_at(own, place), inner] + kept[place:]


def way_at(own, place):
    # At the walk's length it is way 0 that is parted.
    return own[place % len(own)]


def curled_ways(drawing, move, ways):
    at = move[1]
    own = ways[at]
    # At a curl the three ways have one colour, by the first two rules of tables.
    inner = way_at(own, move[2])
    return with_ways(ways, at, parted_ways(own, drawing[0][at] == [], move[2], inner))


def laid_ways(drawing, move, table, ways):
    over_walk = move[1]
    under_walk = move[3]
    above = way_at(ways[over_walk], move[2])
    told = with_ways(ways, over_walk, parted_ways(ways[over_walk], drawing[0][over_walk] == [], move[2], above))
    # The over pair lies there already: a walk that holds it is bare no more.
    bare = drawing[0][under_walk] == [] and under_walk != over_walk
    own = told[under_walk]
    first_sign = -move[8] if move[7] else move[8]
    inner = behind(table, way_at(own, move[4]), above, first_sign)
    return with_ways(told, under_walk, parted_ways(own, bare, move[4], inner))


def behind(table, inward, over, sign):
    return by(table, inward, over) if sign == 1 else back(table, inward, over)


def passed_ways(drawing, move, table, ways):
    told = [list(own) for own in ways]
    top = pair_at(drawing, move[1], move[2])
    mid = pair_at(drawing, move[3], move[4])
    # The passage that goes first behind the move is the last one ahead of it, in each pair.
    across = told[move[3]]
    over = way_at(across, move[4] if mid[1] > 0 else move[4] + 2)
    across[move[4] + 1] = over
    crossing = -pair_at(drawing, move[5], move[6])[1]
    if crossing in top:
        over = told[move[1]][move[2]]
    below = told[move[5]]
    below[move[6] + 1] = behind(table, below[move[6]], over, sign_of(drawing, crossing))
    return told
