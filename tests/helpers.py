"""What the tests share: drawings, tables and groups to ask about, and the check of whose lists are whose (point 3)."""

import copy
import itertools
import math
import random
import unittest

BIG = 10 ** 60 - 1

TREFOIL = ([[1, -2, 3, -1, 2, -3]], [(1, 1), (2, 1), (3, 1)])
HOPF = ([[1, -2], [2, -1]], [(1, -1), (2, -1)])
FAR = (
    [[BIG, -7], [], [-BIG, 10 ** 30, 7, -(10 ** 30)]],
    [(7, -1), (10 ** 30, 1), (BIG, -1)],
)


def made(names, walk_count, seed=0):
    """A drawing with these crossings, their passages dealt out over so many walks."""
    source = random.Random(seed)
    walks = [[] for each in range(walk_count)]
    passages = list(names) + [-name for name in names]
    source.shuffle(passages)
    for passage in passages:
        source.choice(walks).append(passage)
    return (walks, [(name, source.choice((1, -1))) for name in sorted(names)])


def numbered(crossing_count, walk_count, seed=0):
    return made(range(1, crossing_count + 1), walk_count, seed)


def many_drawings():
    """Drawings of all sizes, walks without passages and names far apart among them."""
    told = [([], []), ([[]], []), ([[1, -1]], [(1, 1)]), ([[-1], [1]], [(1, -1)]), TREFOIL, HOPF, FAR]
    for seed in range(120):
        source = random.Random(seed)
        names = sorted(source.sample(range(1, 300), seed % 41))
        if seed % 3 == 0:
            names = [name * 10 ** 57 for name in names]
        told.append(made(names, 1 + seed % 12, seed))
    return told


def plain_arcs(drawing):
    """Point 9 word by word: ways on both sides of an over passage are of one arc, arcs numbered as they come."""
    told = []
    number = 0
    for walk in drawing[0]:
        size = len(walk)
        groups = [{way} for way in range(max(size, 1))]
        for place, passage in enumerate(walk):
            if passage > 0:
                joined = groups[place] | groups[(place + 1) % size]
                for way in joined:
                    groups[way] = joined
        numbers = []
        for way, group in enumerate(groups):
            if min(group) == way:
                numbers.append(number)
                number += 1
            else:
                numbers.append(numbers[min(group)])
        told.append(numbers)
    return told


def plain_meets(drawing):
    numbers = plain_arcs(drawing)
    told = []
    for crossing, sign in sorted(drawing[1]):
        for walk, ways in zip(drawing[0], numbers):
            for place, passage in enumerate(walk):
                if passage == crossing:
                    over = ways[place]
                if passage == -crossing:
                    inward, outward = ways[place], ways[(place + 1) % len(walk)]
        told.append((crossing, sign, over, inward, outward))
    return told


def formula_table(size, factor):
    return [[(factor * a + (1 - factor) * b) % size for b in range(size)] for a in range(size)]


def one_column(size, column, images):
    """Colours stay, but by the one colour each becomes its image: good where that is an order and the one stays."""
    return [[images[a] if b == column else a for b in range(size)] for a in range(size)]


def put_beside(one, other):
    first, second = len(one), len(other)
    told = [list(row) + [a] * second for a, row in enumerate(one)]
    return told + [[first + a] * first + [first + colour for colour in row] for a, row in enumerate(other)]


def relabelled(table, places):
    """The table, or the group, with places[a] in the place of a."""
    size = len(table)
    old = {new: a for a, new in enumerate(places)}
    return [[places[table[old[a]][old[b]]] for b in range(size)] for a in range(size)]


def shuffled(count, seed):
    order = list(range(count))
    random.Random(seed).shuffle(order)
    return order


def composed(one, other):
    return tuple(other[place] for place in one)


def turned_about(order):
    return tuple(sorted(range(len(order)), key=lambda place: order[place]))


def closed_orders(*orders):
    """All orders that come of these, in list order: the one that changes nothing is the first."""
    found = {tuple(range(len(orders[0])))}
    while True:
        more = found | {composed(one, other) for one in found for other in orders}
        if more == found:
            return sorted(found)
        found = more


def group_of(members):
    return [[members.index(composed(one, other)) for other in members] for one in members]


def conjugation_table(members):
    return [[members.index(composed(composed(turned_about(b), a), b)) for b in members] for a in members]


def core_table(members):
    return [[members.index(composed(composed(b, turned_about(a)), b)) for b in members] for a in members]


SQUARE = closed_orders((1, 2, 3, 0), (3, 2, 1, 0))
OF_THREE = sorted(itertools.permutations(range(3)))
OF_FOUR = sorted(itertools.permutations(range(4)))
EVEN_OF_FOUR = closed_orders((1, 2, 0, 3), (1, 0, 3, 2))
QUATERNIONS = closed_orders((1, 2, 3, 0, 5, 6, 7, 4), (4, 7, 6, 5, 2, 1, 0, 3))
SWAPS_OF_FOUR = [order for order in OF_FOUR if sum(order[place] == place for place in range(4)) == 2]


def good_tables():
    """Good tables of all sizes from 1 to 24, of several sorts in each."""
    told = []
    for size in range(1, 25):
        for factor in sorted({1, -1, 2, 3, 5, 7, size // 2 + 1}):
            if math.gcd(factor, size) == 1:
                told.append(formula_table(size, factor))
        told.append(relabelled(formula_table(size, -1), shuffled(size, size)))
        if size > 1:
            told.append(put_beside(formula_table(size // 2, -1), formula_table(size - size // 2, 1)))
        column = size // 2
        images = [colour for colour in shuffled(size, 100 + size) if colour != column]
        told.append(one_column(size, column, images[:column] + [column] + images[column:]))
    for members in (OF_THREE, SQUARE, QUATERNIONS, EVEN_OF_FOUR, OF_FOUR):
        told += [conjugation_table(members), core_table(members)]
    told.append(conjugation_table(SWAPS_OF_FOUR))
    told.append(put_beside(formula_table(5, 2), conjugation_table(SWAPS_OF_FOUR)))
    return told


def paired_group(one, other):
    second = len(other)
    pairs = list(itertools.product(range(len(one)), range(second)))
    return [[one[a][c] * second + other[b][d] for c, d in pairs] for a, b in pairs]


def good_groups():
    """Groups of all sizes from 1 to 24, those whose products hang on the order among them."""
    told = []
    for size in range(1, 25):
        cycle = [[(a + b) % size for b in range(size)] for a in range(size)]
        order = [0] + [1 + place for place in shuffled(size - 1, size)]
        told += [cycle, relabelled(cycle, order)]
    two, three, six = told[2], told[4], told[10]
    told += [paired_group(two, two), paired_group(three, three), paired_group(two, six), paired_group(six, two)]
    told += [group_of(members) for members in (OF_THREE, SQUARE, QUATERNIONS, EVEN_OF_FOUR, OF_FOUR)]
    told += [paired_group(group_of(OF_THREE), three), paired_group(two, group_of(QUATERNIONS))]
    return told


def plain_broken(table):
    """Points 13 and 14 word by word: all breaches, and the first of them."""
    colours = range(len(table))
    found = [(1, a) for a in colours if table[a][a] != a]
    for b, x, y in itertools.product(colours, repeat=3):
        if x < y and table[x][b] == table[y][b]:
            found.append((2, b, x, y))
    for a, b, c in itertools.product(colours, repeat=3):
        if table[table[a][b]][c] != table[table[a][c]][table[b][c]]:
            found.append((3, a, b, c))
    return min(found, default=None)


def plain_dual(table):
    told = [[None] * len(table) for row in table]
    for x, row in enumerate(table):
        for b, a in enumerate(row):
            told[a][b] = x
    return told


def lists_in(value):
    if isinstance(value, list):
        yield value
    if isinstance(value, (list, tuple)):
        for part in value:
            yield from lists_in(part)


def spoil(value):
    """Change every list within the value."""
    for found in list(lists_in(value)):
        found.reverse()
        found.append(987654321)


def refilled(handed, other):
    """What was handed in, its very lists now with the other's things."""
    if isinstance(handed, list):
        handed[:] = copy.deepcopy(other)
        return handed
    if isinstance(handed, tuple):
        return tuple(refilled(old, new) for old, new in zip(handed, other))
    return other


class PlaitTest(unittest.TestCase):
    def assert_own_lists(self, function, *handed):
        """What is handed in stays as it was; what is told is new, within too, and the asker's own."""
        # A copy of its own, as it is spoilt below; one drawing handed in twice stays one.
        handed = copy.deepcopy(handed)
        before = copy.deepcopy(handed)
        told = function(*handed)
        self.assertEqual(handed, before)
        expected = copy.deepcopy(told)
        places = [id(found) for found in lists_in(told)]
        self.assertEqual(len(set(places)), len(places))
        self.assertFalse(set(places) & {id(found) for found in lists_in(handed)})
        spoil(told)
        self.assertEqual(handed, before)
        again = function(*handed)
        self.assertEqual(again, expected)
        spoil(handed)
        self.assertEqual(again, expected)
        self.assertEqual(function(*before), expected)

    def assert_asked_anew(self, function, first, second):
        """The same lists with other things in them are answered as they are now."""
        expected = function(*copy.deepcopy(second))
        # Each copied by itself: one list in two places could not become two.
        handed = tuple(copy.deepcopy(each) for each in first)
        self.assertEqual(function(*handed), function(*first))
        self.assertEqual(function(*refilled(handed, second)), expected)

    def assert_refused(self, refusal, function, *handed):
        """The refusal comes, each time alike, and what was handed in stays as it was."""
        before = copy.deepcopy(handed)
        for each in range(2):
            with self.assertRaises(refusal) as caught:
                function(*handed)
            self.assertIs(caught.exception.__class__, refusal)
            self.assertEqual(handed, before)
        return caught.exception

    def assert_whole(self, value):
        """All numbers within are plain ints, none of them a truth."""
        if isinstance(value, (list, tuple)):
            for part in value:
                self.assert_whole(part)
        elif not isinstance(value, str):
            self.assertIs(type(value), int)
