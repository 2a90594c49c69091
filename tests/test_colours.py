"""Points 26, 27, 28, and 2, 3, 4 for plait/colours.py."""

import itertools
import random
import unittest

from plait.arcs import arc_count
from plait.colours import colourings, fits, gathered, many, spread
from plait.errors import NoFit, TooMuch
from tests.helpers import (
    BIG, FAR, HOPF, OF_THREE, TREFOIL, PlaitTest, conjugation_table, formula_table, good_tables, many_drawings,
    numbered, one_column, plain_arcs, plain_meets, put_beside,
)

FIGURE_EIGHT = ([[1, -2, 3, -1, 4, -3, 2, -4]], [(1, 1), (2, -1), (3, 1), (4, -1)])
# Tables that tell a by b from a by b in the dual, and colours from one another.
TABLES = [
    [[0]], formula_table(2, 1), formula_table(3, -1), one_column(3, 0, [0, 2, 1]), formula_table(4, -1),
    one_column(4, 3, [1, 2, 0, 3]), formula_table(5, 2), formula_table(5, -1), formula_table(7, 3),
    conjugation_table(OF_THREE), put_beside(formula_table(5, 2), [[0]]), formula_table(16, 5), formula_table(24, 7),
]


def wrong_at(meets, table, colours):
    """Point 26 word by word: the crossings at which the colours are wrong."""
    told = []
    for crossing, sign, over, inward, outward in meets:
        y, x, z = colours[over], colours[inward], colours[outward]
        if sign == 1 and z != table[x][y] or sign == -1 and x != table[z][y]:
            told.append(crossing)
    return told


def plain_colourings(drawing, table):
    """All lists are tried, in list order."""
    meets = plain_meets(drawing)
    return [list(colours) for colours in all_lists(drawing, table) if not wrong_at(meets, table, colours)]


def all_lists(drawing, table):
    return itertools.product(range(len(table)), repeat=arc_count(drawing))


def small_drawings():
    """Drawings of up to 6 crossings, with walks without passages and crossings of both signs."""
    told = [([], []), ([[]], []), ([[], [], []], []), TREFOIL, HOPF, FIGURE_EIGHT, FAR]
    told += [([[1, -1]], [(1, sign)]) for sign in (1, -1)] + [([[-1, 1]], [(1, sign)]) for sign in (1, -1)]
    told += [([[-1], [], [1]], [(1, sign)]) for sign in (1, -1)]
    for seed in range(60):
        told.append(numbered(seed % 7, 1 + seed % 4, seed))
    return told


def asked(most):
    """Drawings and tables with at most so many lists to try."""
    for drawing, table in itertools.product(small_drawings(), TABLES):
        if len(table) ** arc_count(drawing) <= most:
            yield drawing, table


def rings(count):
    return ([[] for each in range(count)], [])


def of_arcs(count, walks):
    """A drawing of as many crossings and arcs, each walk with an under passage."""
    for seed in range(1000):
        drawing = numbered(count, walks, seed)
        if all(any(passage < 0 for passage in walk) for walk in drawing[0]):
            return drawing
    raise LookupError(count)


def plain_spread(drawing, colours):
    return [[colours[arc] for arc in ways] for ways in plain_arcs(drawing)]


class Fits(PlaitTest):
    def test_well_known_ones(self):
        turns = formula_table(3, -1)
        self.assertIs(fits(TREFOIL, turns, [0, 1, 2]), True)
        self.assertIs(fits(TREFOIL, turns, [2, 2, 2]), True)
        self.assertIs(fits(TREFOIL, turns, [0, 0, 1]), False)
        self.assertIs(fits(([], []), turns, []), True)
        self.assertIs(fits(([], []), turns, [0]), False)
        self.assertIs(fits(rings(2), turns, [2, 0]), True)

    def test_the_sign_tells_the_way_of_the_table(self):
        # The second walk goes under the first one once: 1 by 0 is 2, and 2 by 0 in the dual is 1.
        table = one_column(4, 0, [0, 2, 3, 1])
        for sign in (1, -1):
            drawing = ([[1, 2], [-1, -2]], [(1, sign), (2, -sign)])
            # over, then the way to -1 and the way behind it.
            for colour, image in ((1, 2), (2, 3), (3, 1)):
                right = [0, colour, image] if sign == 1 else [0, image, colour]
                wrong = [0, image, colour] if sign == 1 else [0, colour, image]
                self.assertIs(fits(drawing, table, right), True)
                self.assertIs(fits(drawing, table, wrong), False)

    def test_all_lists(self):
        for drawing, table in asked(800):
            meets = plain_meets(drawing)
            for colours in all_lists(drawing, table):
                expected = wrong_at(meets, table, colours) == []
                self.assertIs(fits(drawing, table, list(colours)), expected)

    def test_one_crossing_broken(self):
        seen = set()
        for drawing, table in asked(800):
            signs = dict(drawing[1])
            meets = plain_meets(drawing)
            for colours in all_lists(drawing, table):
                broken = wrong_at(meets, table, colours)
                if len(broken) == 1:
                    self.assertIs(fits(drawing, table, list(colours)), False)
                    at = [crossing for crossing, sign in drawing[1]].index(broken[0])
                    seen.add((signs[broken[0]], "first" if at == 0 else "last" if at + 1 == len(signs) else "middle"))
        self.assertEqual(seen, set(itertools.product((1, -1), ("first", "middle", "last"))))

    def test_too_short_and_too_long(self):
        for drawing in many_drawings() + small_drawings():
            for table in TABLES:
                count = arc_count(drawing)
                self.assertIs(fits(drawing, table, [0] * count), True)
                for length in {0, count - 1, count + 1, 2 * count, 90} - {count, -1}:
                    self.assertIs(fits(drawing, table, [0] * length), False)

    def test_numbers_that_are_no_colours(self):
        for drawing in small_drawings():
            count = arc_count(drawing)
            for table in TABLES:
                size = len(table)
                for place in sorted({0, count // 2, count - 1} if count else set()):
                    for wrong in (-1, -size, size, size + 1, BIG, -BIG):
                        colours = [0] * count
                        colours[place] = wrong
                        self.assertIs(fits(drawing, table, colours), False)
                if count:
                    self.assertIs(fits(drawing, table, [-1] * count), False)
                    self.assertIs(fits(drawing, table, [size] * count), False)

    def test_big_drawings(self):
        for drawing in many_drawings():
            for table in good_tables()[::11]:
                for colour in sorted({0, len(table) - 1}):
                    colours = [colour] * arc_count(drawing)
                    self.assertIs(fits(drawing, table, colours), True)

    def test_own_lists(self):
        for drawing, table in asked(100):
            count = arc_count(drawing)
            for colours in ([0] * count, [], [0] * (count + 1), list(range(count)), [-1] * count):
                self.assert_own_lists(fits, drawing, table, colours)


class Colourings(PlaitTest):
    def test_well_known_ones(self):
        self.assertEqual(colourings(TREFOIL, formula_table(3, -1)), [
            [0, 0, 0], [0, 1, 2], [0, 2, 1], [1, 0, 2], [1, 1, 1], [1, 2, 0], [2, 0, 1], [2, 1, 0], [2, 2, 2],
        ])
        self.assertEqual(many(TREFOIL, formula_table(5, -1)), 5)
        self.assertEqual(many(FIGURE_EIGHT, formula_table(5, -1)), 25)
        self.assertEqual(many(FIGURE_EIGHT, formula_table(3, -1)), 3)
        self.assertEqual(many(HOPF, formula_table(2, 1)), 4)

    def test_no_walk(self):
        for table in TABLES:
            self.assertEqual(colourings(([], []), table), [[]])
            self.assertEqual(many(([], []), table), 1)

    def test_walks_without_passages(self):
        for count, size in ((1, 1), (1, 24), (2, 5), (3, 24), (12, 1), (12, 2), (8, 4)):
            for factor in (1, -1):
                told = colourings(rings(count), formula_table(size, factor))
                self.assertEqual(told, [list(each) for each in itertools.product(range(size), repeat=count)])
                self.assertEqual(many(rings(count), formula_table(size, factor)), size ** count)

    def test_all_and_none_else_in_list_order(self):
        seen = set()
        for drawing, table in asked(4096):
            told = colourings(drawing, table)
            self.assertEqual(told, plain_colourings(drawing, table))
            number = many(drawing, table)
            self.assertEqual(number, len(told))
            self.assertIs(type(number), int)
            self.assert_whole(told)
            seen.add(number)
        self.assertGreater(len(seen), 8)

    def test_bigger_ones(self):
        for seed, size, factor in ((1, 4, -1), (2, 3, -1), (3, 2, 1), (4, 5, 2)):
            drawing = numbered(6, 2, seed)
            table = formula_table(size, factor)
            self.assertEqual(colourings(drawing, table), plain_colourings(drawing, table))

    def test_just_65536_lists(self):
        for size, count in ((2, 16), (4, 8), (16, 4)):
            for walks in (1, 2, 3):
                drawing = of_arcs(count, walks)
                table = formula_table(size, -1)
                told = colourings(drawing, table)
                self.assertEqual(len(told), many(drawing, table))
                meets = plain_meets(drawing)
                self.assertTrue(all(wrong_at(meets, table, colours) == [] for colours in told))
                self.assertTrue(all(one < other for one, other in zip(told, told[1:])))
        self.assertEqual(many(rings(4), formula_table(16, 5)), 65536)

    def test_too_much(self):
        for size, most in ((2, 16), (3, 10), (4, 8), (5, 6), (6, 6), (7, 5), (9, 5), (16, 4), (17, 3), (24, 3)):
            self.assertLessEqual(size ** most, 65536)
            self.assertGreater(size ** (most + 1), 65536)
            table = formula_table(size, -1)
            self.assertIs(type(many(of_arcs(most, 1), table)), int)
            for count in (most + 1, most + 2, 40):
                for function in (colourings, many):
                    self.assert_refused(TooMuch, function, of_arcs(count, 1), table)
        for function in (colourings, many):
            self.assert_refused(TooMuch, function, rings(5), formula_table(16, 1))
            self.assert_refused(TooMuch, function, numbered(40, 12), formula_table(24, 1))

    def test_one_colour_and_many_arcs(self):
        over = ([list(range(1, 41))] + [[-name for name in range(1, 41)]], [(name, 1) for name in range(1, 41)])
        far = (over[0] + [[] for each in range(10)], over[1])
        self.assertEqual(arc_count(far), 51)
        for drawing in many_drawings() + [over, far, numbered(40, 1), numbered(40, 12)]:
            self.assertEqual(colourings(drawing, [[0]]), [[0] * arc_count(drawing)])
            self.assertEqual(many(drawing, [[0]]), 1)
        self.assert_refused(TooMuch, many, far, [[0, 0], [1, 1]])

    def test_refused_once_and_taken_then(self):
        drawing = rings(6)
        table = formula_table(7, -1)
        self.assert_refused(TooMuch, colourings, drawing, table)
        drawing[0].pop()
        self.assertEqual(len(colourings(drawing, table)), 7 ** 5)

    def test_own_lists(self):
        for drawing, table in asked(200):
            self.assert_own_lists(colourings, drawing, table)
            self.assert_own_lists(many, drawing, table)


class AskedAnew(PlaitTest):
    def test_drawings_tables_and_colours_that_were_changed(self):
        turns, still = formula_table(3, -1), formula_table(4, 1)
        for drawing in small_drawings():
            count = arc_count(drawing)
            for function in (colourings, many):
                if count <= 8:
                    self.assert_asked_anew(function, (drawing, turns), (TREFOIL, still))
                    self.assert_asked_anew(function, (HOPF, still), (drawing, turns))
            self.assert_asked_anew(fits, (drawing, turns, [0] * count), (TREFOIL, still, [0, 1, 2]))
            self.assert_asked_anew(fits, (TREFOIL, still, [0, 1, 2]), (drawing, turns, [0] * count))
            colours = list(range(count))
            self.assert_asked_anew(spread, (drawing, colours), (TREFOIL, [7, 8, 9]))
            ways = plain_spread(drawing, colours)
            self.assert_asked_anew(gathered, (TREFOIL, [[7, 7, 8, 8, 9, 9]]), (drawing, ways))


class SpreadAndGathered(PlaitTest):
    def numbers(self, count, seed):
        source = random.Random(seed)
        far = [BIG, -BIG, 10 ** 59, 0, -1]
        return [source.choice(far) if source.random() < 0.3 else source.randrange(-50, 50) for each in range(count)]

    def test_well_known_ones(self):
        self.assertEqual(spread(TREFOIL, [5, 6, 7]), [[5, 5, 6, 6, 7, 7]])
        self.assertEqual(gathered(TREFOIL, [[5, 5, 6, 6, 7, 7]]), [5, 6, 7])
        self.assertEqual(spread(HOPF, [BIG, -BIG]), [[BIG, BIG], [-BIG, -BIG]])
        self.assertEqual(gathered(HOPF, [[BIG, BIG], [-BIG, -BIG]]), [BIG, -BIG])
        self.assertEqual(spread(([], []), []), [])
        self.assertEqual(gathered(([], []), []), [])

    def test_walks_without_passages_and_without_under_passages(self):
        self.assertEqual(spread(rings(2), [3, 3]), [[3], [3]])
        self.assertEqual(gathered(rings(2), [[3], [-4]]), [3, -4])
        drawing = ([[1, 2, 3], [], [-1, -2, -3]], [(1, 1), (2, 1), (3, -1)])
        self.assertEqual(spread(drawing, [9, 8, 7, 6, 5]), [[9, 9, 9], [8], [7, 6, 5]])
        self.assertEqual(gathered(drawing, [[9, 9, 9], [8], [7, 6, 5]]), [9, 8, 7, 6, 5])
        for wrong in ([1, 9, 9], [9, 1, 9], [9, 9, 1]):
            self.assert_refused(NoFit, gathered, drawing, [wrong, [8], [7, 6, 5]])

    def test_a_walk_that_begins_within_an_arc(self):
        drawing = ([[1, -2, 3, -1, -3, 2]], [(1, 1), (2, 1), (3, 1)])
        self.assertEqual(spread(drawing, [4, 5, 6]), [[4, 4, 5, 5, 6, 4]])
        self.assertEqual(gathered(drawing, [[4, 4, 5, 5, 6, 4]]), [4, 5, 6])
        self.assert_refused(NoFit, gathered, drawing, [[4, 4, 5, 5, 6, 7]])
        self.assert_refused(NoFit, gathered, drawing, [[7, 4, 5, 5, 6, 4]])
        self.assert_refused(NoFit, gathered, drawing, [[4, 4, 5, 5, 6, 5]])
        self.assertEqual(gathered(drawing, [[4, 4, 4, 4, 6, 4]]), [4, 4, 6])

    def test_many_drawings(self):
        for seed, drawing in enumerate(many_drawings() + small_drawings() + [numbered(40, 12), numbered(40, 1)]):
            colours = self.numbers(arc_count(drawing), seed)
            ways = spread(drawing, colours)
            self.assertEqual(ways, plain_spread(drawing, colours))
            self.assertEqual([len(each) for each in ways], [max(len(walk), 1) for walk in drawing[0]])
            told = gathered(drawing, ways)
            self.assertEqual(told, colours)
            self.assert_whole(ways)
            self.assert_whole(told)

    def test_each_way_changed(self):
        for drawing in small_drawings() + many_drawings()[::12]:
            arcs = plain_arcs(drawing)
            flat = [arc for ways in arcs for arc in ways]
            colours = list(range(1, arc_count(drawing) + 1))
            for walk, ways in enumerate(arcs):
                for way, arc in enumerate(ways):
                    for number in (0, -colours[arc], BIG, -BIG):
                        changed = plain_spread(drawing, colours)
                        changed[walk][way] = number
                        if flat.count(arc) > 1:
                            self.assert_refused(NoFit, gathered, drawing, changed)
                        else:
                            expected = colours[:arc] + [number] + colours[arc + 1:]
                            self.assertEqual(gathered(drawing, changed), expected)

    def test_refused_once_and_taken_then(self):
        ways = [[5, 5, 6, 6, 7, 8]]
        self.assert_refused(NoFit, gathered, TREFOIL, ways)
        ways[0][5] = 7
        self.assertEqual(gathered(TREFOIL, ways), [5, 6, 7])

    def test_own_lists(self):
        for seed, drawing in enumerate(many_drawings()):
            colours = self.numbers(arc_count(drawing), seed)
            self.assert_own_lists(spread, drawing, colours)
            self.assert_own_lists(gathered, drawing, plain_spread(drawing, colours))


if __name__ == "__main__":
    unittest.main()
