"""Point 17, and 2, 3, 4 for plait/joins.py."""

import itertools
import unittest

from plait.errors import TooBig
from plait.joins import moved, paired, side
from tests.helpers import (
    PlaitTest, formula_table, good_tables, one_column, plain_broken, shuffled,
)

TABLES = good_tables()
BY_SIZE = {size: [table for table in TABLES if len(table) == size] for size in range(1, 25)}


def plain_side(one, other):
    """Colours as tuples of the table's place and the colour in it."""
    colours = [(0, a) for a in range(len(one))] + [(1, a) for a in range(len(other))]
    told = []
    for table, a in colours:
        row = []
        for where, b in colours:
            result = (table, (one, other)[table][a][b]) if table == where else (table, a)
            row.append(colours.index(result))
        told.append(row)
    return told


def plain_paired(one, other):
    size = len(one) * len(other)
    told = [[None] * size for each in range(size)]
    firsts, seconds = range(len(one)), range(len(other))
    for a, b, c, d in itertools.product(firsts, seconds, firsts, seconds):
        told[a * len(other) + b][c * len(other) + d] = one[a][c] * len(other) + other[b][d]
    return told


class Side(PlaitTest):
    def test_small_ones(self):
        self.assertEqual(side([[0]], [[0]]), [[0, 0], [1, 1]])
        turns = [[0, 2, 1], [2, 1, 0], [1, 0, 2]]
        self.assertEqual(side([[0]], turns), [[0, 0, 0, 0], [1, 1, 3, 2], [2, 3, 2, 1], [3, 2, 1, 3]])
        self.assertEqual(side(turns, [[0]]), [[0, 2, 1, 0], [2, 1, 0, 1], [1, 0, 2, 2], [3, 3, 3, 3]])

    def test_sizes_up_to_just_twenty_four(self):
        for first in range(1, 24):
            for second in sorted({1, (24 - first) // 2, 24 - first} - {0}):
                for one, other in zip(BY_SIZE[first], reversed(BY_SIZE[second])):
                    told = side(one, other)
                    self.assertEqual(told, plain_side(one, other))
                    self.assert_whole(told)
                self.assertIsNone(plain_broken(told))

    def test_one_table_twice(self):
        for size in range(1, 13):
            for table in BY_SIZE[size]:
                self.assertEqual(side(table, table), plain_side(table, table))
                self.assert_own_lists(side, table, table)

    def test_too_big(self):
        for first in range(1, 25):
            for second in sorted({25 - first, 24, 13}):
                if first + second > 24:
                    self.assert_refused(TooBig, side, BY_SIZE[first][0], BY_SIZE[second][-1])
        for size in (13, 24):
            self.assert_refused(TooBig, side, BY_SIZE[size][0], BY_SIZE[size][0])

    def test_refused_once_and_taken_then(self):
        one, other = formula_table(12, -1), formula_table(13, 1)
        self.assert_refused(TooBig, side, one, other)
        other.pop()
        for row in other:
            row.pop()
        self.assertEqual(side(one, other), plain_side(formula_table(12, -1), formula_table(12, 1)))

    def test_own_lists(self):
        for first in range(1, 24):
            for one, other in zip(BY_SIZE[first], BY_SIZE[24 - first]):
                self.assert_own_lists(side, one, other)


class Paired(PlaitTest):
    def test_small_ones(self):
        self.assertEqual(paired([[0]], [[0]]), [[0]])
        turns = [[0, 2, 1], [2, 1, 0], [1, 0, 2]]
        for told in (paired([[0]], turns), paired(turns, [[0]])):
            self.assertEqual(told, turns)
        self.assertEqual(paired([[0, 0], [1, 1]], turns)[4], [5, 4, 3, 5, 4, 3])
        self.assertEqual(paired(turns, [[0, 0], [1, 1]])[4], [2, 2, 0, 0, 4, 4])

    def test_sizes_up_to_just_twenty_four(self):
        for first, second in itertools.product(range(1, 25), repeat=2):
            if first * second <= 24:
                for one, other in zip(BY_SIZE[first], reversed(BY_SIZE[second])):
                    told = paired(one, other)
                    self.assertEqual(told, plain_paired(one, other))
                    self.assert_whole(told)
                self.assertIsNone(plain_broken(told))

    def test_one_table_twice(self):
        for size in range(1, 5):
            for table in BY_SIZE[size]:
                self.assertEqual(paired(table, table), plain_paired(table, table))
                self.assert_own_lists(paired, table, table)

    def test_too_big(self):
        for first, second in itertools.product(range(1, 25), repeat=2):
            if first * second > 24:
                self.assert_refused(TooBig, paired, BY_SIZE[first][0], BY_SIZE[second][-1])
        self.assert_refused(TooBig, paired, BY_SIZE[5][0], BY_SIZE[5][0])

    def test_the_bounds_are_of_the_sum_and_of_the_product(self):
        self.assertEqual(len(paired(formula_table(24, 1), [[0]])), 24)
        self.assert_refused(TooBig, side, formula_table(24, 1), [[0]])
        self.assertEqual(len(side(formula_table(5, 2), formula_table(5, 2))), 10)
        self.assert_refused(TooBig, paired, formula_table(5, 2), formula_table(5, 2))

    def test_own_lists(self):
        for first, second in itertools.product(range(1, 25), repeat=2):
            if first * second <= 24:
                self.assert_own_lists(paired, BY_SIZE[first][-1], BY_SIZE[second][0])


class AskedAnew(PlaitTest):
    def test_tables_that_were_changed(self):
        small = [table for table in TABLES if len(table) <= 4]
        for one, other in itertools.product(small, repeat=2):
            for function in (side, paired):
                self.assert_asked_anew(function, (one, other), (other, [[0]]))
        for one, other in zip(TABLES, reversed(TABLES)):
            self.assert_asked_anew(moved, (one, shuffled(len(one), 1)), (other, shuffled(len(other), 2)))


class Moved(PlaitTest):
    def assert_moved(self, table, places):
        told = moved(table, places)
        self.assertEqual(len(told), len(table))
        for a, b in itertools.product(range(len(table)), repeat=2):
            self.assertEqual(told[places[a]][places[b]], places[table[a][b]])
        self.assert_whole(told)

    def test_the_order_that_changes_nothing(self):
        for table in TABLES:
            self.assertEqual(moved(table, list(range(len(table)))), table)

    def test_a_swap(self):
        table = one_column(3, 0, [0, 2, 1])
        self.assertEqual(moved(table, [0, 2, 1]), table)
        self.assertEqual(moved(table, [1, 0, 2]), [[0, 2, 0], [1, 1, 1], [2, 0, 2]])
        for table in TABLES:
            if len(table) > 1:
                places = list(range(len(table)))
                places[0], places[-1] = places[-1], places[0]
                self.assert_moved(table, places)

    def test_an_order_that_is_not_its_own_way_back(self):
        table = one_column(4, 0, [0, 2, 1, 3])
        # 0 goes to 1, 1 to 2, 2 to 0: by 1 now 2 and 0 change places.
        self.assertEqual(moved(table, [1, 2, 0, 3]), [[0, 2, 0, 0], [1, 1, 1, 1], [2, 0, 2, 2], [3, 3, 3, 3]])
        for table in TABLES:
            size = len(table)
            self.assert_moved(table, list(range(1, size)) + [0])
            for seed in range(3):
                self.assert_moved(table, shuffled(size, seed))

    def test_it_is_good_and_the_way_back_leads_back(self):
        for table in TABLES:
            places = shuffled(len(table), 9)
            told = moved(table, places)
            self.assertIsNone(plain_broken(told))
            self.assertEqual(moved(told, [places.index(colour) for colour in range(len(table))]), table)

    def test_own_lists(self):
        for table in TABLES:
            self.assert_own_lists(moved, table, list(range(len(table))))
            self.assert_own_lists(moved, table, shuffled(len(table), 4))


if __name__ == "__main__":
    unittest.main()
