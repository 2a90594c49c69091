"""Point 23, and 2, 3, 4 for plait/every.py."""

import itertools
import unittest

from plait.errors import TooBig
from plait.every import tables
from tests.helpers import BIG, PlaitTest, formula_table, plain_broken, put_beside


def plain_tables(size):
    """All lists of lists that are good; for four colours those alone that have orders as columns (rule 2)."""
    if size < 4:
        tried = [
            [list(numbers[start:start + size]) for start in range(0, size * size, size)]
            for numbers in itertools.product(range(size), repeat=size * size)
        ]
    else:
        columns = itertools.product(itertools.permutations(range(size)), repeat=size)
        kept = [each for each in columns if all(each[b][b] == b for b in range(size))]
        tried = [[[column[a] for column in each] for a in range(size)] for each in kept]
    return sorted(table for table in tried if plain_broken(table) is None)


class Tables(PlaitTest):
    def test_small_ones(self):
        self.assertEqual(tables(1), [[[0]]])
        self.assertEqual(tables(2), [[[0, 0], [1, 1]]])
        self.assertEqual(tables(3), [
            [[0, 0, 0], [1, 1, 1], [2, 2, 2]],
            [[0, 0, 0], [2, 1, 1], [1, 2, 2]],
            [[0, 0, 1], [1, 1, 0], [2, 2, 2]],
            [[0, 2, 0], [1, 1, 1], [2, 0, 2]],
            [[0, 2, 1], [2, 1, 0], [1, 0, 2]],
        ])

    def test_all_and_none_else_in_list_order(self):
        for size, count in ((1, 1), (2, 1), (3, 5), (4, 36)):
            told = tables(size)
            self.assertEqual(len(told), count)
            self.assertEqual(told, plain_tables(size))
            self.assert_whole(told)
            flat = [sum(table, []) for table in told]
            self.assertTrue(all(one < other for one, other in zip(flat, flat[1:])))

    def test_well_known_ones_are_there(self):
        for table in (formula_table(4, 1), formula_table(4, -1), put_beside([[0]], formula_table(3, -1))):
            self.assertEqual(tables(4).count(table), 1)

    def test_too_big(self):
        for size in (5, 6, 7, 24, 25, 10 ** 30, BIG):
            self.assert_refused(TooBig, tables, size)

    def test_own_lists(self):
        for size in (1, 2, 3, 4):
            self.assert_own_lists(tables, size)


if __name__ == "__main__":
    unittest.main()
