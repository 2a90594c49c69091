"""Moves of strings: which are legal, what they make of a drawing, and which lead back."""

from plait.drawings import MOST_CROSSINGS, crossings, sign_of
from plait.errors import NoMove
from plait.shapes import turned


def legal(drawing, move):
    word = move[0]
    if word == "turn":
        return is_walk(drawing, move[1])
    if word == "curl":
        return curl_legal(drawing, move)
    if word == "uncurl":
        return uncurl_legal(drawing, move)
    if word == "lay":
        return lay_legal(drawing, move)
    if word == "unlay":
        return unlay_legal(drawing, move)
    return pass_legal(drawing, move)


def is_walk(drawing, walk):
    return 0 <= walk < len(drawing[0])


def can_lay(drawing, walk, place, more):
    return is_walk(drawing, walk) and 0 <= place <= len(drawing[0][walk]) + more


def pair_at(drawing, walk, place):
    if not is_walk(drawing, walk) or not 0 <= place < len(drawing[0][walk]) - 1:
        return None
    passages = drawing[0][walk]
    return (passages[place], passages[place + 1])


def can_add(drawing, names):
    known = crossings(drawing)
    if len(known) + len(names) > MOST_CROSSINGS or len(set(names)) < len(names):
        return False
    return all([name >= 1 and name not in known for name in names])


def curl_legal(drawing, move):
    if not can_lay(drawing, move[1], move[2], 0) or not can_add(drawing, [move[3]]):
        return False
    return move[4] in ("over", "under") and move[5] in (1, -1)


def uncurl_legal(drawing, move):
    pair = pair_at(drawing, move[1], move[2])
    return pair is not None and is_curl(pair)


def is_curl(pair):
    return pair[0] == -pair[1]


def lay_legal(drawing, move):
    if not can_lay(drawing, move[1], move[2], 0) or not can_add(drawing, [move[5], move[6]]):
        return False
    same = move[3] == move[1]
    if same and move[4] == move[2] + 1:
        return False
    # The under place is counted where the over pair lies already.
    return can_lay(drawing, move[3], move[4], 2 if same else 0) and move[8] in (1, -1)


def unlay_legal(drawing, move):
    over = pair_at(drawing, move[1], move[2])
    under = pair_at(drawing, move[3], move[4])
    return over is not None and under is not None and can_unlay(drawing, over, under)


def can_unlay(drawing, over, under):
    if min(over) < 0 or sorted(under) != sorted([-over[0], -over[1]]):
        return False
    return sign_of(drawing, over[0]) != sign_of(drawing, over[1])


def pass_legal(drawing, move):
    top = pair_at(drawing, move[1], move[2])
    mid = pair_at(drawing, move[3], move[4])
    low = pair_at(drawing, move[5], move[6])
    if top is None or mid is None or low is None:
        return False
    # The document's letters: p, q and r are the orders of the pairs, a, b and c their crossings.
    a = -min(mid)
    c = max(mid)
    if min(top) < 0 or a not in top or c < 0 or c in top:
        return False
    b = top[1] if top[0] == a else top[0]
    if sorted(low) != sorted([-b, -c]):
        return False
    p = order_of(top, a)
    q = order_of(mid, -a)
    r = order_of(low, -b)
    if p * sign_of(drawing, b) != q * sign_of(drawing, c):
        return False
    return q * sign_of(drawing, a) == r * sign_of(drawing, b)


def order_of(pair, passage):
    return 1 if pair[0] == passage else -1


def done(drawing, move):
    refuse_illegal(drawing, move)
    word = move[0]
    if word == "turn":
        return turned(drawing, move[1], move[2])
    if word == "curl":
        return curled(drawing, move)
    if word == "uncurl":
        pair = pair_at(drawing, move[1], move[2])
        return (without_pair(drawing[0], move[1], move[2]), signs_without(drawing, pair))
    if word == "lay":
        return laid(drawing, move)
    if word == "unlay":
        return unlaid(drawing, move)
    return passed(drawing, move)


def refuse_illegal(drawing, move):
    if not legal(drawing, move):
        raise NoMove("this move is not legal here")


def with_pair(walks, at, place, pair):
    told = [list(walk) for walk in walks]
    told[at] = told[at][:place] + pair + told[at][place:]
    return told


def without_pair(walks, at, place):
    told = [list(walk) for walk in walks]
    told[at] = told[at][:place] + told[at][place + 2:]
    return told


def signs_without(drawing, pair):
    return [entry for entry in drawing[1] if entry[0] not in pair]


def curled(drawing, move):
    crossing = move[3]
    pair = [crossing, -crossing] if move[4] == "over" else [-crossing, crossing]
    return (with_pair(drawing[0], move[1], move[2], pair), sorted(drawing[1] + [(crossing, move[5])]))


def laid(drawing, move):
    one = move[5]
    two = move[6]
    under = [-two, -one] if move[7] else [-one, -two]
    walks = with_pair(drawing[0], move[1], move[2], [one, two])
    walks = with_pair(walks, move[3], move[4], under)
    return (walks, sorted(drawing[1] + [(one, move[8]), (two, -move[8])]))


def unlaid(drawing, move):
    over = pair_at(drawing, move[1], move[2])
    walks = without_pair(drawing[0], move[3], move[4])
    walks = without_pair(walks, move[1], bare_over_place(move))
    return (walks, signs_without(drawing, over))


def bare_over_place(move):
    # Where the over pair of an "unlay" stands as soon as the under pair is cut out.
    ahead = move[3] == move[1] and move[4] < move[2]
    return move[2] - 2 if ahead else move[2]


def passed(drawing, move):
    walks = [list(walk) for walk in drawing[0]]
    for at, place in ((move[1], move[2]), (move[3], move[4]), (move[5], move[6])):
        first = walks[at][place]
        walks[at][place] = walks[at][place + 1]
        walks[at][place + 1] = first
    return (walks, list(drawing[1]))


def undone(drawing, move):
    refuse_illegal(drawing, move)
    word = move[0]
    if word == "turn":
        return ("turn", move[1], -move[2])
    if word == "curl":
        return ("uncurl", move[1], move[2])
    if word == "uncurl":
        return curl_back(drawing, move)
    if word == "lay":
        return unlay_back(move)
    if word == "unlay":
        return lay_back(drawing, move)
    return move


def curl_back(drawing, move):
    pair = pair_at(drawing, move[1], move[2])
    crossing = max(pair)
    first = "over" if pair[0] == crossing else "under"
    return ("curl", move[1], move[2], crossing, first, sign_of(drawing, crossing))


def unlay_back(move):
    # An under pair that was laid ahead in the same walk has pushed the over pair on.
    ahead = move[3] == move[1] and move[4] <= move[2]
    return ("unlay", move[1], move[2] + 2 if ahead else move[2], move[3], move[4])


def lay_back(drawing, move):
    over = pair_at(drawing, move[1], move[2])
    under = pair_at(drawing, move[3], move[4])
    crossed = under[0] != -over[0]
    sign = sign_of(drawing, over[0])
    return ("lay", move[1], bare_over_place(move), move[3], move[4], over[0], over[1], crossed, sign)
