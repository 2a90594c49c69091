"""Point 36, and 2, 3, 4, 5 for plait/marks.py."""

import itertools
import unittest

from plait.chains import led
from plait.errors import TooBig, TooMuch
from plait.marks import mark, parted
from tests.helpers import (
    BIG, FAR, HOPF, TREFOIL, PlaitTest, chain_from, numbered, plain_arcs, plain_broken, plain_meets, relabelled,
)

EMPTY = ([], [])
RING = ([[]], [])
TURNS = [[0, 2, 1], [2, 1, 0], [1, 0, 2]]
FIGURE_EIGHT = ([[1, -2, 3, -1, 4, -3, 2, -4]], [(1, 1), (2, -1), (3, -1), (4, 1)])


def rings(count):
    return ([[] for each in range(count)], [])


def plain_tables(size):
    """All good tables of a size up to 3, and of 4 those whose columns are orders: rule 2 leaves no other."""
    columns = list(itertools.product(range(size), repeat=size)) if size < 4 else list(itertools.permutations(range(4)))
    told = []
    for choice in itertools.product(columns, repeat=size):
        if all(column[b] == b for b, column in enumerate(choice)):
            table = [[column[a] for column in choice] for a in range(size)]
            if plain_broken(table) is None:
                told.append(table)
    return sorted(told)


ALL_TABLES = {size: plain_tables(size) for size in range(1, 5)}


def plain_kinds(size):
    told = []
    for table in ALL_TABLES[size]:
        alike = [relabelled(table, places) for places in itertools.permutations(range(size))]
        if not any(kind in alike for kind in told):
            told.append(table)
    return told


ALL_KINDS = {size: plain_kinds(size) for size in range(1, 5)}


def plain_many(drawing, table):
    meets = plain_meets(drawing)
    arcs = {arc for ways in plain_arcs(drawing) for arc in ways}
    number = 0
    for colours in itertools.product(range(len(table)), repeat=len(arcs)):
        number += all(
            table[colours[inward]][colours[over]] == colours[outward] if sign == 1
            else table[colours[outward]][colours[over]] == colours[inward]
            for crossing, sign, over, inward, outward in meets
        )
    return number


def plain_mark(drawing, size):
    return [plain_many(drawing, table) for each in range(1, size + 1) for table in ALL_KINDS[each]]


def plain_parted(one, other, size):
    for each in range(1, size + 1):
        for table in ALL_TABLES[each]:
            numbers = (plain_many(one, table), plain_many(other, table))
            if numbers[0] != numbers[1]:
                return (table, *numbers)
    return None


def small_drawings():
    told = [EMPTY, RING, rings(3), ([[1, -1]], [(1, 1)]), ([[-1], [1]], [(1, -1)]), ([[1], [-1], []], [(1, 1)])]
    return told + [HOPF, TREFOIL, FIGURE_EIGHT, FAR] + [numbered(seed % 5, 1 + seed % 3, seed) for seed in range(12)]


class Mark(PlaitTest):
    def test_well_known_ones(self):
        self.assertEqual(mark(TREFOIL, 1), [1])
        self.assertEqual(mark(TREFOIL, 2), [1, 2])
        self.assertEqual(mark(TREFOIL, 3), [1, 2, 3, 3, 9])
        self.assertEqual(mark(FIGURE_EIGHT, 4), [1, 2, 3, 3, 3, 4, 4, 4, 4, 4, 4, 16])
        self.assertEqual(mark(HOPF, 3), [1, 4, 9, 5, 3])

    def test_the_drawing_without_walks_and_walks_without_passages(self):
        self.assertEqual(mark(EMPTY, 4), [1] * 12)
        self.assertEqual(mark(RING, 4), [1, 2, 3, 3, 3] + [4] * 7)
        self.assertEqual(mark(rings(2), 3), [1, 4, 9, 9, 9])

    def test_as_the_point_reads(self):
        for drawing in small_drawings():
            for size in range(1, 5):
                self.assertEqual(mark(drawing, size), plain_mark(drawing, size))

    def test_no_legal_moves_change_it(self):
        for seed in range(20):
            drawing = [TREFOIL, HOPF, RING, rings(2)][seed % 4]
            there = led(drawing, chain_from(drawing, 12, seed, 4))
            self.assertEqual(mark(there, 4), mark(drawing, 4))
            self.assertIsNone(parted(drawing, there, 4))

    def test_too_big(self):
        for size in (5, 6, 24, 25, 1000, BIG):
            self.assert_refused(TooBig, mark, TREFOIL, size)
            self.assert_refused(TooBig, mark, EMPTY, size)
            # Ahead of TooMuch.
            self.assert_refused(TooBig, mark, rings(12), size)

    def test_too_much(self):
        for size, most in ((2, 16), (3, 10), (4, 8)):
            for count in (most - 1, most):
                if count <= 12:
                    self.assertEqual(mark(rings(count), size)[-1], size ** count)
            for drawing in (numbered(most + 1, 1), numbered(40, 12)):
                self.assert_refused(TooMuch, mark, drawing, size)
                self.assertEqual(mark(drawing, 1), [1])
            # Not at it, where the arcs are those of crossings, too.
            self.assertEqual(mark(numbered(most, 1), size)[0], 1)
        for size, count in ((3, 11), (4, 9)):
            self.assert_refused(TooMuch, mark, rings(count), size)
            self.assertEqual(mark(rings(count), size - 1)[-1], (size - 1) ** count)

    def test_own_lists(self):
        for drawing in small_drawings():
            for size in (1, 2, 3):
                self.assert_own_lists(mark, drawing, size)
                self.assert_whole(mark(drawing, size))

    def test_asked_anew(self):
        self.assert_asked_anew(mark, (TREFOIL, 3), (HOPF, 3))
        self.assert_asked_anew(mark, (TREFOIL, 3), (TREFOIL, 2))


class Parted(PlaitTest):
    def test_well_known_ones(self):
        self.assertEqual(parted(TREFOIL, RING, 3), (TURNS, 9, 3))
        self.assertEqual(parted(RING, TREFOIL, 4), (TURNS, 3, 9))
        self.assertIsNone(parted(TREFOIL, RING, 2))
        self.assertEqual(parted(RING, EMPTY, 4), ([[0, 0], [1, 1]], 2, 1))
        self.assertIsNone(parted(RING, EMPTY, 1))
        self.assertIsNone(parted(FIGURE_EIGHT, RING, 3))
        self.assertEqual(parted(FIGURE_EIGHT, RING, 4)[1:], (16, 4))

    def test_the_first_table_by_size_then_in_list_order(self):
        # By the size 3 the second one of all tables is the first that parts these.
        self.assertEqual(parted(HOPF, rings(2), 3), (ALL_TABLES[3][1], 5, 9))
        for table in ALL_TABLES[3][1:]:
            self.assertNotEqual(plain_many(HOPF, table), 9)

    def test_as_the_point_reads(self):
        found = set()
        for one, other in itertools.product(small_drawings()[:14], repeat=2):
            for size in (1, 2, 3):
                expected = plain_parted(one, other, size)
                self.assertEqual(parted(one, other, size), expected)
                found.add(None if expected is None else len(expected[0]))
        self.assertEqual(found, {None, 2, 3})
        for one, other in itertools.product(small_drawings()[5:11], repeat=2):
            self.assertEqual(parted(one, other, 4), plain_parted(one, other, 4))

    def test_one_drawing_twice(self):
        for drawing in small_drawings():
            self.assertIsNone(parted(drawing, drawing, 4))

    def test_too_big(self):
        for size in (5, 6, 24, 25, BIG):
            pairs = [(TREFOIL, RING), (TREFOIL, TREFOIL), (rings(12), RING), (RING, rings(12)), (EMPTY, EMPTY)]
            for one, other in pairs:
                self.assert_refused(TooBig, parted, one, other, size)

    def test_too_much(self):
        much = {2: numbered(17, 1), 3: numbered(11, 1), 4: numbered(9, 1)}
        most = {2: numbered(16, 1), 3: numbered(10, 1), 4: numbered(8, 1)}
        for size in (2, 3, 4):
            for other in (RING, most[size], much[size], EMPTY):
                self.assert_refused(TooMuch, parted, much[size], other, size)
                self.assert_refused(TooMuch, parted, other, much[size], size)
                self.assertIsNone(parted(much[size], other, 1))
            self.assertIsNone(parted(most[size], most[size], size))
            self.assertEqual(parted(most[size], EMPTY, size)[0], [[0, 0], [1, 1]])
            self.assertEqual(parted(EMPTY, most[size], size)[0], [[0, 0], [1, 1]])
        # Refused even where a table of a lesser size would part them.
        self.assert_refused(TooMuch, parted, rings(9), RING, 4)
        self.assertEqual(parted(rings(9), RING, 3), ([[0, 0], [1, 1]], 512, 2))

    def test_the_same_drawings_once_refused(self):
        self.assert_refused(TooMuch, parted, rings(11), TREFOIL, 3)
        self.assertEqual(parted(rings(11), TREFOIL, 2), ([[0, 0], [1, 1]], 2048, 2))

    def test_own_lists(self):
        for one, other in itertools.product((EMPTY, RING, TREFOIL, HOPF, FAR), repeat=2):
            self.assert_own_lists(parted, one, other, 3)
        self.assert_whole(parted(TREFOIL, RING, 3))

    def test_asked_anew(self):
        self.assert_asked_anew(parted, (TREFOIL, RING, 3), (HOPF, rings(2), 3))


if __name__ == "__main__":
    unittest.main()
