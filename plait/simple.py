"""Taking down: a drawing made simpler by moves that take pairs out."""

from plait.chains import led
from plait.moves import can_unlay, is_curl


def simpler(drawing):
    left = led(drawing, [])
    told = []
    moves = first_moves(left)
    while len(moves) > 0:
        told.extend(moves)
        left = led(left, moves)
        moves = first_moves(left)
    return (left, told)


def first_moves(drawing):
    found = pairs(drawing)
    for pair in found:
        if is_curl(pair[2]):
            return moves_to_uncurl(drawing, pair)
    for over in found:
        for under in found:
            if can_unlay(drawing, over[2], under[2]):
                return moves_to_unlay(drawing, over, under)
    return []


def pairs(drawing):
    told = []
    for at, walk in enumerate(drawing[0]):
        if len(walk) > 1:
            # Behind the last passage comes the first one: here these are a pair, too.
            seconds = walk[1:] + walk[:1]
            told.extend([(at, place, pair) for place, pair in enumerate(zip(walk, seconds))])
    return told


def goes_round(drawing, pair):
    return pair[1] == len(drawing[0][pair[0]]) - 1


def moves_to_uncurl(drawing, pair):
    if goes_round(drawing, pair):
        return [turn_to(pair), ("uncurl", pair[0], 0)]
    return [("uncurl", pair[0], pair[1])]


def turn_to(pair):
    return ("turn", pair[0], pair[1])


def moves_to_unlay(drawing, over, under):
    told = []
    over_place = over[1]
    under_place = under[1]
    # Of two pairs of one walk one at most goes round, and the turn moves the other one on.
    on = 1 if over[0] == under[0] else 0
    if goes_round(drawing, over):
        told.append(turn_to(over))
        over_place = 0
        under_place += on
    if goes_round(drawing, under):
        told.append(turn_to(under))
        over_place += on
        under_place = 0
    return told + [("unlay", over[0], over_place, under[0], under_place)]
