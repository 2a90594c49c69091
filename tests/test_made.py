"""Point 22, and 2, 3, 4 for plait/made.py."""

import itertools
import unittest

from plait.groups import both, cycle, orders
from plait.made import class_of, class_table, conjugates, cores
from plait.parts import part
from tests.helpers import (
    OF_FOUR, OF_THREE, PlaitTest, conjugation_table, core_table, formula_table, good_groups, plain_broken,
)

GROUPS = good_groups() + [
    orders(1), orders(2), orders(3), orders(4), both(orders(3), cycle(4)), both(cycle(4), orders(3)),
    both(orders(3), orders(2)), both(cycle(2), cycle(12)), both(orders(2), both(orders(2), orders(3))),
]


def plain_inverse(group, a):
    return next(b for b in range(len(group)) if group[a][b] == 0)


def plain_conjugate(group, a, b):
    return group[plain_inverse(group, b)][group[a][b]]


def plain_core(group, a, b):
    return group[b][group[plain_inverse(group, a)][b]]


def plain_class(group, a):
    return sorted({plain_conjugate(group, a, b) for b in range(len(group))})


class Conjugates(PlaitTest):
    def test_of_cycles(self):
        for size in range(1, 25):
            self.assertEqual(conjugates(cycle(size)), formula_table(size, 1))

    def test_of_orders(self):
        self.assertEqual(conjugates(orders(1)), [[0]])
        self.assertEqual(conjugates(orders(2)), [[0, 0], [1, 1]])
        told = conjugates(orders(3))
        self.assertEqual(told, [
            [0, 0, 0, 0, 0, 0], [1, 1, 5, 5, 2, 2], [2, 5, 2, 1, 5, 1],
            [3, 4, 4, 3, 3, 4], [4, 3, 3, 4, 4, 3], [5, 2, 1, 2, 1, 5],
        ])
        self.assertEqual(told, conjugation_table(OF_THREE))
        self.assertEqual(conjugates(orders(4)), conjugation_table(OF_FOUR))

    def test_word_by_word(self):
        for group in GROUPS:
            told = conjugates(group)
            self.assertEqual(len(told), len(group))
            for a, b in itertools.product(range(len(group)), repeat=2):
                self.assertEqual(told[a][b], plain_conjugate(group, a, b))
            self.assertIsNone(plain_broken(told))
            self.assert_whole(told)

    def test_own_lists(self):
        for group in GROUPS:
            self.assert_own_lists(conjugates, group)


class Cores(PlaitTest):
    def test_of_cycles(self):
        for size in range(1, 25):
            self.assertEqual(cores(cycle(size)), formula_table(size, -1))

    def test_of_orders(self):
        self.assertEqual(cores(orders(1)), [[0]])
        self.assertEqual(cores(orders(3)), core_table(OF_THREE))
        self.assertEqual(cores(orders(4)), core_table(OF_FOUR))

    def test_word_by_word(self):
        for group in GROUPS:
            told = cores(group)
            self.assertEqual(len(told), len(group))
            for a, b in itertools.product(range(len(group)), repeat=2):
                self.assertEqual(told[a][b], plain_core(group, a, b))
            self.assertIsNone(plain_broken(told))
            self.assert_whole(told)

    def test_own_lists(self):
        for group in GROUPS:
            self.assert_own_lists(cores, group)


class AskedAnew(PlaitTest):
    def test_groups_that_were_changed(self):
        for one, other in zip(GROUPS, reversed(GROUPS)):
            self.assert_asked_anew(conjugates, (one,), (other,))
            self.assert_asked_anew(cores, (one,), (other,))
            self.assert_asked_anew(class_of, (one, len(one) - 1), (other, len(other) - 1))
            self.assert_asked_anew(class_table, (one, len(one) - 1), (other, len(other) - 1))


class Classes(PlaitTest):
    def test_of_cycles_and_of_nought(self):
        for size in range(1, 25):
            for a in range(size):
                self.assertEqual(class_of(cycle(size), a), [a])
                self.assertEqual(class_table(cycle(size), a), [[0]])
        for group in GROUPS:
            self.assertEqual(class_of(group, 0), [0])
            self.assertEqual(class_table(group, 0), [[0]])

    def test_of_orders(self):
        told = [class_of(orders(3), a) for a in range(6)]
        self.assertEqual(told, [[0], [1, 2, 5], [1, 2, 5], [3, 4], [3, 4], [1, 2, 5]])
        self.assertEqual(class_table(orders(3), 2), formula_table(3, -1))
        self.assertEqual(class_table(orders(3), 4), formula_table(2, 1))
        sizes = [len(class_of(orders(4), a)) for a in range(24)]
        self.assertEqual([sizes.count(size) for size in (1, 3, 6, 8)], [1, 3, 12, 8])

    def test_each_number(self):
        for group in GROUPS:
            tables = {}
            for a in range(len(group)):
                told = class_of(group, a)
                self.assertEqual(told, plain_class(group, a))
                self.assertIn(a, told)
                self.assert_whole(told)
                table = class_table(group, a)
                plain = [[told.index(plain_conjugate(group, x, y)) for y in told] for x in told]
                self.assertEqual(table, plain)
                self.assert_whole(table)
                tables[tuple(told)] = table
            for members, table in tables.items():
                self.assertIsNone(plain_broken(table))
                self.assertEqual(table, part(conjugates(group), list(members)))

    def test_own_lists(self):
        for group in GROUPS:
            for a in sorted({0, len(group) // 2, len(group) - 1}):
                self.assert_own_lists(class_of, group, a)
                self.assert_own_lists(class_table, group, a)


if __name__ == "__main__":
    unittest.main()
