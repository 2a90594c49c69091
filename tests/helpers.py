"""What the tests share: drawings, tables and groups to ask about, and the check of whose lists are whose (point 3)."""

import copy
import itertools
import math
import random
import unittest

BIG = 10 ** 60 - 1

TREFOIL = ([[1, -2, 3, -1, 2, -3]], [(1, 1), (2, 1), (3, 1)])
HOPF = ([[1, -2], [2, -1]], [(1, -1), (2, -1)])
FAR = (
    [[BIG, -7], [], [-BIG, 10 ** 30, 7, -(10 ** 30)]],
    [(7, -1), (10 ** 30, 1), (BIG, -1)],
)


def made(names, walk_count, seed=0):
    """A drawing with these crossings, their passages dealt out over so many walks."""
    source = random.Random(seed)
    walks = [[] for each in range(walk_count)]
    passages = list(names) + [-name for name in names]
    source.shuffle(passages)
    for passage in passages:
        source.choice(walks).append(passage)
    return (walks, [(name, source.choice((1, -1))) for name in sorted(names)])


def numbered(crossing_count, walk_count, seed=0):
    return made(range(1, crossing_count + 1), walk_count, seed)


def many_drawings():
    """Drawings of all sizes, walks without passages and names far apart among them."""
    told = [([], []), ([[]], []), ([[1, -1]], [(1, 1)]), ([[-1], [1]], [(1, -1)]), TREFOIL, HOPF, FAR]
    for seed in range(120):
        source = random.Random(seed)
        names = sorted(source.sample(range(1, 300), seed % 41))
        if seed % 3 == 0:
            names = [name * 10 ** 57 for name in names]
        told.append(made(names, 1 + seed % 12, seed))
    return told


def plain_arcs(drawing):
    """Point 9 word by word: ways on both sides of an over passage are of one arc, arcs numbered as they come."""
    told = []
    number = 0
    for walk in drawing[0]:
        size = len(walk)
        groups = [{way} for way in range(max(size, 1))]
        for place, passage in enumerate(walk):
            if passage > 0:
                joined = groups[place] | groups[(place + 1) % size]
                for way in joined:
                    groups[way] = joined
        numbers = []
        for way, group in enumerate(groups):
            if min(group) == way:
                numbers.append(number)
                number += 1
            else:
                numbers.append(numbers[min(group)])
        told.append(numbers)
    return told


def plain_meets(drawing):
    numbers = plain_arcs(drawing)
    told = []
    for crossing, sign in sorted(drawing[1]):
        for walk, ways in zip(drawing[0], numbers):
            for place, passage in enumerate(walk):
                if passage == crossing:
                    over = ways[place]
                if passage == -crossing:
                    inward, outward = ways[place], ways[(place + 1) % len(walk)]
        told.append((crossing, sign, over, inward, outward))
    return told


def formula_table(size, factor):
    return [[(factor * a + (1 - factor) * b) % size for b in range(size)] for a in range(size)]


def one_column(size, column, images):
    """Colours stay, but by the one colour each becomes its image: good where that is an order and the one stays."""
    return [[images[a] if b == column else a for b in range(size)] for a in range(size)]


def put_beside(one, other):
    first, second = len(one), len(other)
    told = [list(row) + [a] * second for a, row in enumerate(one)]
    return told + [[first + a] * first + [first + colour for colour in row] for a, row in enumerate(other)]


def relabelled(table, places):
    """The table, or the group, with places[a] in the place of a."""
    size = len(table)
    old = {new: a for a, new in enumerate(places)}
    return [[places[table[old[a]][old[b]]] for b in range(size)] for a in range(size)]


def shuffled(count, seed):
    order = list(range(count))
    random.Random(seed).shuffle(order)
    return order


def composed(one, other):
    return tuple(other[place] for place in one)


def turned_about(order):
    return tuple(sorted(range(len(order)), key=lambda place: order[place]))


def closed_orders(*orders):
    """All orders that come of these, in list order: the one that changes nothing is the first."""
    found = {tuple(range(len(orders[0])))}
    while True:
        more = found | {composed(one, other) for one in found for other in orders}
        if more == found:
            return sorted(found)
        found = more


def group_of(members):
    return [[members.index(composed(one, other)) for other in members] for one in members]


def conjugation_table(members):
    return [[members.index(composed(composed(turned_about(b), a), b)) for b in members] for a in members]


def core_table(members):
    return [[members.index(composed(composed(b, turned_about(a)), b)) for b in members] for a in members]


SQUARE = closed_orders((1, 2, 3, 0), (3, 2, 1, 0))
OF_THREE = sorted(itertools.permutations(range(3)))
OF_FOUR = sorted(itertools.permutations(range(4)))
EVEN_OF_FOUR = closed_orders((1, 2, 0, 3), (1, 0, 3, 2))
QUATERNIONS = closed_orders((1, 2, 3, 0, 5, 6, 7, 4), (4, 7, 6, 5, 2, 1, 0, 3))
SWAPS_OF_FOUR = [order for order in OF_FOUR if sum(order[place] == place for place in range(4)) == 2]


def good_tables():
    """Good tables of all sizes from 1 to 24, of several sorts in each."""
    told = []
    for size in range(1, 25):
        for factor in sorted({1, -1, 2, 3, 5, 7, size // 2 + 1}):
            if math.gcd(factor, size) == 1:
                told.append(formula_table(size, factor))
        told.append(relabelled(formula_table(size, -1), shuffled(size, size)))
        if size > 1:
            told.append(put_beside(formula_table(size // 2, -1), formula_table(size - size // 2, 1)))
        column = size // 2
        images = [colour for colour in shuffled(size, 100 + size) if colour != column]
        told.append(one_column(size, column, images[:column] + [column] + images[column:]))
    for members in (OF_THREE, SQUARE, QUATERNIONS, EVEN_OF_FOUR, OF_FOUR):
        told += [conjugation_table(members), core_table(members)]
    told.append(conjugation_table(SWAPS_OF_FOUR))
    told.append(put_beside(formula_table(5, 2), conjugation_table(SWAPS_OF_FOUR)))
    return told


def paired_group(one, other):
    second = len(other)
    pairs = list(itertools.product(range(len(one)), range(second)))
    return [[one[a][c] * second + other[b][d] for c, d in pairs] for a, b in pairs]


def good_groups():
    """Groups of all sizes from 1 to 24, those whose products hang on the order among them."""
    told = []
    for size in range(1, 25):
        cycle = [[(a + b) % size for b in range(size)] for a in range(size)]
        order = [0] + [1 + place for place in shuffled(size - 1, size)]
        told += [cycle, relabelled(cycle, order)]
    two, three, six = told[2], told[4], told[10]
    told += [paired_group(two, two), paired_group(three, three), paired_group(two, six), paired_group(six, two)]
    told += [group_of(members) for members in (OF_THREE, SQUARE, QUATERNIONS, EVEN_OF_FOUR, OF_FOUR)]
    told += [paired_group(group_of(OF_THREE), three), paired_group(two, group_of(QUATERNIONS))]
    return told


def plain_broken(table):
    """Points 13 and 14 word by word: all breaches, and the first of them."""
    colours = range(len(table))
    found = [(1, a) for a in colours if table[a][a] != a]
    for b, x, y in itertools.product(colours, repeat=3):
        if x < y and table[x][b] == table[y][b]:
            found.append((2, b, x, y))
    for a, b, c in itertools.product(colours, repeat=3):
        if table[table[a][b]][c] != table[table[a][c]][table[b][c]]:
            found.append((3, a, b, c))
    return min(found, default=None)


def plain_dual(table):
    told = [[None] * len(table) for row in table]
    for x, row in enumerate(table):
        for b, a in enumerate(row):
            told[a][b] = x
    return told


def plain_pair(drawing, walk, place):
    """Point 29: the two passages, None where there is no such pair."""
    found = {}
    for number, passages in enumerate(drawing[0]):
        for at in range(len(passages) - 1):
            found[number, at] = (passages[at], passages[at + 1])
    return found.get((walk, place))


def plain_turnabouts(drawing, top, mid, low):
    """Point 31: whether the three pairs may pass, whichever of their passages a, b and c are."""
    signs = dict(drawing[1])
    for a, b in (top, top[::-1]):
        for c in signs:
            named = a > 0 and b > 0 and c not in (a, b)
            if named and sorted(mid) == sorted((-a, c)) and sorted(low) == sorted((-b, -c)):
                p = 1 if top == (a, b) else -1
                q = 1 if mid == (-a, c) else -1
                r = 1 if low == (-b, -c) else -1
                return p * signs[b] == q * signs[c] and q * signs[a] == r * signs[b]
    return False


def plain_places(drawing, walk):
    """The places at which a pair may be laid into the walk."""
    return range(len(drawing[0][walk]) + 1) if walk in range(len(drawing[0])) else ()


def plain_new(drawing, *names):
    taken = {abs(passage) for passages in drawing[0] for passage in passages}
    few = len(taken) + len(names) <= 40
    return few and len(set(names)) == len(names) and all(name > 0 and name not in taken for name in names)


def plain_legal(drawing, move):
    """Point 31 word by word."""
    word, rest = move[0], move[1:]
    if word == "turn":
        return rest[0] in range(len(drawing[0]))
    if word == "curl":
        walk, place, crossing, first, sign = rest
        laid = place in plain_places(drawing, walk) and plain_new(drawing, crossing)
        return laid and first in ("over", "under") and sign in (1, -1)
    if word == "lay":
        over_walk, over_place, under_walk, under_place, one, two, crossed, sign = rest
        laid = over_place in plain_places(drawing, over_walk) and plain_new(drawing, one, two)
        if not laid or sign not in (1, -1):
            return False
        longer = copy.deepcopy(drawing)
        longer[0][over_walk][over_place:over_place] = [one, two]
        between = (over_walk, over_place + 1) == (under_walk, under_place)
        return under_place in plain_places(longer, under_walk) and not between
    pairs = [plain_pair(drawing, *spot) for spot in zip(rest[::2], rest[1::2])]
    if None in pairs:
        return False
    if word == "uncurl":
        return sum(pairs[0]) == 0
    if word == "unlay":
        signs = dict(drawing[1])
        over, under = pairs
        named = over[0] > 0 and over[1] > 0 and sorted(under) == sorted((-over[0], -over[1]))
        return named and signs[over[0]] + signs[over[1]] == 0
    return plain_turnabouts(drawing, *pairs)


def plain_done(drawing, move):
    """What point 31 tells that a legal move makes of the drawing."""
    walks, signs = copy.deepcopy(drawing)
    word, rest = move[0], move[1:]
    if word == "turn":
        for each in range(rest[1] % max(len(walks[rest[0]]), 1)):
            walks[rest[0]].append(walks[rest[0]].pop(0))
    elif word == "curl":
        walk, place, crossing, first, sign = rest
        walks[walk][place:place] = [crossing, -crossing] if first == "over" else [-crossing, crossing]
        signs.append((crossing, sign))
    elif word == "lay":
        over_walk, over_place, under_walk, under_place, one, two, crossed, sign = rest
        walks[over_walk][over_place:over_place] = [one, two]
        walks[under_walk][under_place:under_place] = [-two, -one] if crossed else [-one, -two]
        signs += [(one, sign), (two, -sign)]
    elif word == "pass":
        for walk, place in zip(rest[::2], rest[1::2]):
            walks[walk][place:place + 2] = reversed(walks[walk][place:place + 2])
    else:
        cut = {abs(passage) for passage in walks[rest[0]][rest[1]:rest[1] + 2]}
        walks = [[passage for passage in walk if abs(passage) not in cut] for walk in walks]
        signs = [entry for entry in signs if entry[0] not in cut]
    return (walks, sorted(signs))


def all_spots(drawing, beyond=0):
    """Walks and places, with so many walks and places beyond either end."""
    for walk in range(-beyond, len(drawing[0]) + beyond):
        length = len(drawing[0][walk]) if walk in range(len(drawing[0])) else 1
        for place in range(-beyond, length + 1 + beyond):
            yield (walk, place)


def tried_moves(drawing, beyond=0):
    """Moves of all six forms, legal or not, at all walks and places."""
    new = sorted(set(range(1, 100)) - {entry[0] for entry in drawing[1]})
    spots = list(all_spots(drawing, beyond))
    for walk, place in spots:
        yield ("turn", walk, place)
        yield ("uncurl", walk, place)
        for first, sign in itertools.product(("over", "under"), (1, -1)):
            yield ("curl", walk, place, new[place % 2], first, sign)
    for over in spots:
        last = max(place for walk, place in spots if walk == over[0])
        # The over walk has two places more as soon as the over pair lies there.
        for under in spots + [(over[0], last + 1), (over[0], last + 2)]:
            for crossed, sign in itertools.product((True, False), (1, -1)):
                yield ("lay", *over, *under, *new[:2][::sign], crossed, sign)
        for under in spots:
            yield ("unlay", *over, *under)
    for top, mid, low in itertools.product(spots, repeat=3):
        yield ("pass", *top, *mid, *low)


def legal_moves(drawing):
    """All that are legal, each once, of all six forms."""
    return [move for move in dict.fromkeys(tried_moves(drawing)) if plain_legal(drawing, move)]


def lists_in(value):
    if isinstance(value, list):
        yield value
    if isinstance(value, (list, tuple)):
        for part in value:
            yield from lists_in(part)


def spoil(value):
    """Change every list within the value."""
    for found in list(lists_in(value)):
        found.reverse()
        found.append(987654321)


def refilled(handed, other):
    """What was handed in, its very lists now with the other's things."""
    if isinstance(handed, list):
        handed[:] = copy.deepcopy(other)
        return handed
    if isinstance(handed, tuple) and list(lists_in(handed)):
        return tuple(refilled(old, new) for old, new in zip(handed, other))
    return other


def chain_from(drawing, length, seed, most=40):
    """Random legal moves, one behind another; beyond so many crossings none is laid any more."""
    source = random.Random(seed)
    told = []
    for each in range(length):
        moves = list(shrinking_moves(drawing))
        if not moves or source.random() < 0.6:
            moves += [growing_move(drawing, source) for each in range(2)] if len(drawing[1]) < most else []
        moves = [move for move in moves if plain_legal(drawing, move)]
        move = source.choice(moves or [("turn", source.randrange(len(drawing[0])), source.randrange(-9, 9))])
        told.append(move)
        drawing = plain_done(drawing, move)
    return told


def growing_move(drawing, source):
    def spot():
        walk = source.randrange(len(drawing[0]))
        return (walk, source.randrange(len(drawing[0][walk]) + 1))

    one, two = source.sample(sorted(set(range(1, 100)) - {entry[0] for entry in drawing[1]}), 2)
    if source.random() < 0.4:
        return ("curl", *spot(), one, source.choice(("over", "under")), source.choice((1, -1)))
    return ("lay", *spot(), *spot(), one, two, source.random() < 0.5, source.choice((1, -1)))


def shrinking_moves(drawing):
    """All moves that lay nothing, at the pairs where they might be legal."""
    places = {}
    for walk, passages in enumerate(drawing[0]):
        for place in range(len(passages) - 1):
            places[tuple(passages[place:place + 2])] = (walk, place)
    for (first, second), spot in places.items():
        yield ("uncurl", *spot)
        for under in ((-first, -second), (-second, -first)):
            if under in places:
                yield ("unlay", *spot, *places[under])
        mids = [mid for mid in places if min(mid) in (-first, -second) and max(mid) > 0]
        for mid, low in itertools.product(mids, places):
            if -max(mid) in low:
                yield ("pass", *spot, *places[mid], *places[low])


def passing(ups, signs, spread, seed=0):
    """A drawing with the three pairs of a "pass" and the move: in these orders, in one, two or three walks."""
    a, b, c, other = [(5, 3, 9, 7), (2, 1, 8, 3), (9, 4, 1, 6)][seed % 3]
    pairs = [[a, b], [-a, c], [-b, -c]]
    pairs = [pair if up == 1 else pair[::-1] for pair, up in zip(pairs, ups)]
    source = random.Random(seed)
    walks = [[] for walk in set(spread)]
    for at in shuffled(3, seed):
        walks[spread[at]].append(pairs[at])
    for passage in (other, -other) if seed % 2 else ():
        walk = source.choice(walks)
        walk.insert(source.randrange(len(walk) + 1), [passage])
    walks = [[passage for pair in walk for passage in pair] for walk in walks]
    entries = dict(zip((a, b, c), signs))
    if seed % 2:
        entries[other] = source.choice((1, -1))
    drawing = (walks, sorted(entries.items()))
    spots = [(walk, walks[walk].index(pair[0])) for walk, pair in zip(spread, pairs)]
    return drawing, ("pass", *spots[0], *spots[1], *spots[2])


def all_passings():
    """The three pairs in all orders, with all signs, in one, two and three walks; with what p, q and r tell of them."""
    spreads = [(0, 0, 0), (0, 0, 1), (0, 1, 0), (1, 0, 0), (0, 1, 2), (2, 0, 1)]
    turns = list(itertools.product((1, -1), repeat=3))
    for seed, (spread, ups, signs) in enumerate(itertools.product(spreads, turns, turns)):
        (p, q, r), (of_a, of_b, of_c) = ups, signs
        for each in (2 * seed, 2 * seed + 1):
            drawing, move = passing(ups, signs, spread, each)
            yield drawing, move, p * of_b == q * of_c and q * of_a == r * of_b


class PlaitTest(unittest.TestCase):
    def assert_own_lists(self, function, *handed):
        """What is handed in stays as it was; what is told is new, within too, and the asker's own."""
        # A copy of its own, as it is spoilt below; one drawing handed in twice stays one.
        handed = copy.deepcopy(handed)
        before = copy.deepcopy(handed)
        told = function(*handed)
        self.assertEqual(handed, before)
        expected = copy.deepcopy(told)
        places = [id(found) for found in lists_in(told)]
        self.assertEqual(len(set(places)), len(places))
        self.assertFalse(set(places) & {id(found) for found in lists_in(handed)})
        spoil(told)
        self.assertEqual(handed, before)
        again = function(*handed)
        self.assertEqual(again, expected)
        spoil(handed)
        self.assertEqual(again, expected)
        self.assertEqual(function(*before), expected)

    def assert_asked_anew(self, function, first, second):
        """The same lists with other things in them are answered as they are now."""
        expected = function(*copy.deepcopy(second))
        # Each copied by itself: one list in two places could not become two.
        handed = tuple(copy.deepcopy(each) for each in first)
        self.assertEqual(function(*handed), function(*first))
        self.assertEqual(function(*refilled(handed, second)), expected)

    def assert_refused(self, refusal, function, *handed):
        """The refusal comes, each time alike, and what was handed in stays as it was."""
        before = copy.deepcopy(handed)
        for each in range(2):
            with self.assertRaises(refusal) as caught:
                function(*handed)
            self.assertIs(caught.exception.__class__, refusal)
            self.assertEqual(handed, before)
        return caught.exception

    def assert_whole(self, value):
        """All numbers within are plain ints, none of them a truth."""
        if isinstance(value, (list, tuple)):
            for part in value:
                self.assert_whole(part)
        elif not isinstance(value, str):
            self.assertIs(type(value), int)
