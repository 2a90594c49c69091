"""Points 12, 13, 14, 15, 16, and 2, 3, 4 for plait/tables.py."""

import itertools
import math
import random
import unittest

from plait.errors import NoUnit, TooBig
from plait.tables import back, broken, by, dual, scaled, still, turns
from tests.helpers import (
    BIG, OF_THREE, PlaitTest, conjugation_table, formula_table, good_tables, one_column, plain_broken, plain_dual,
    put_beside,
)

FAR_SIZES = (25, 26, 48, 90, 10 ** 6, 10 ** 30, BIG)


def with_number(table, a, b, colour):
    told = [list(row) for row in table]
    told[a][b] = colour
    return told


def swapped(size, one, other):
    told = list(range(size))
    told[one], told[other] = other, one
    return told


def all_square_lists(size):
    for numbers in itertools.product(range(size), repeat=size * size):
        yield [list(numbers[start:start + size]) for start in range(0, size * size, size)]


class TellsBreaches(PlaitTest):
    def assert_broken(self, table, expected):
        for each in range(2):
            told = broken(table)
            self.assertEqual(told, expected)
            self.assertIs(type(told), tuple)
            self.assert_whole(told)
        self.assertEqual(expected, plain_broken(table))


class Broken(TellsBreaches):
    def test_good_tables_of_all_sizes(self):
        tables = good_tables()
        self.assertEqual({len(table) for table in tables}, set(range(1, 25)))
        for table in tables:
            self.assertIsNone(broken(table))

    def test_the_first_rule(self):
        for size in range(2, 25):
            for a in sorted({0, size // 2, size - 1}):
                self.assert_broken(with_number(formula_table(size, 1), a, a, (a + 1) % size), (1, a))
                self.assert_broken(with_number(formula_table(size, -1), a, a, (a + size - 1) % size), (1, a))

    def test_the_first_rule_by_itself(self):
        # By each colour all go one swap or one round: the two other rules are kept.
        for size in (2, 3, 7, 24):
            for one, other in ((0, 1), (0, size - 1), ((size - 1) // 2, size - 1), (size - 2, size - 1)):
                images = swapped(size, one, other)
                self.assert_broken([[images[a]] * size for a in range(size)], (1, one))
            self.assert_broken([[(a + 1) % size] * size for a in range(size)], (1, 0))
        for size in (1, 5, 22):
            self.assert_broken(put_beside(formula_table(size, 1), [[1, 1], [0, 0]]), (1, size))

    def test_the_least_a(self):
        table = formula_table(9, 1)
        for a in (8, 5, 2, 0):
            table[a][a] = (a + 4) % 9
            self.assert_broken(table, (1, a))

    def test_the_second_rule_by_itself(self):
        # By one colour two others become the same: what it makes of them is not that colour, so the third rule is kept.
        for size in (3, 4, 9, 24):
            for b in sorted({0, size // 2, size - 1}):
                others = [colour for colour in range(size) if colour != b]
                for x, y in ((others[0], others[1]), (others[0], others[-1]), (others[-2], others[-1])):
                    for same in (x, y):
                        images = list(range(size))
                        images[x], images[y] = same, same
                        self.assert_broken(one_column(size, b, images), (2, b, x, y))

    def test_the_least_b_then_x_then_y(self):
        images = [0, 3, 2, 3, 2, 3, 6, 2]
        self.assert_broken(one_column(8, 0, images), (2, 0, 1, 3))
        self.assert_broken(one_column(8, 6, images), (2, 6, 1, 3))
        images = [0, 1, 5, 5, 5, 5, 6, 7]
        self.assert_broken(one_column(8, 7, images), (2, 7, 2, 3))
        images = [0, 1, 7, 3, 4, 7, 7, 7]
        self.assert_broken(one_column(8, 7, images), (2, 7, 2, 5))
        images = [4, 1, 2, 3, 4, 1, 1, 4]
        self.assert_broken(one_column(8, 4, images), (2, 4, 0, 4))
        table = one_column(8, 6, [0, 1, 2, 3, 2, 3, 6, 7])
        self.assert_broken(table, (2, 6, 2, 4))
        table[5][3] = 7
        self.assert_broken(table, (2, 3, 5, 7))
        for size in (2, 5, 24):
            self.assert_broken([list(range(size)) for a in range(size)], (2, 0, 0, 1))
            self.assert_broken([[min(a, b) for b in range(size)] for a in range(size)], (2, 0, 0, 1))
            self.assert_broken([[max(a, b) for b in range(size)] for a in range(size)], (2, 1, 0, 1))

    def test_the_third_rule_by_itself(self):
        # By c the colours j and z change places, but by j x and y do so and by z none: breaches at x, y by j, z by c.
        for size in (5, 6, 11, 24):
            for c in sorted({0, size // 2, size - 1}):
                others = [colour for colour in range(size) if colour != c]
                for four in (others[:4], others[-4:], others[:2] + others[-2:]):
                    for x, y, j, z in itertools.permutations(four):
                        table = formula_table(size, 1)
                        table[x][j], table[y][j] = y, x
                        table[j][c], table[z][c] = z, j
                        self.assertEqual(broken(table), (3, min(x, y), min(j, z), c))
                    self.assert_broken(table, (3, min(x, y), min(j, z), c))

    def test_several_rules_at_once(self):
        table = formula_table(6, 5)
        table[2][3] = (table[2][3] + 1) % 6
        self.assertEqual(broken(table)[:2], (2, 3))
        table[5][5] = 0
        self.assert_broken(table, (1, 5))
        table[4][0] = (table[4][0] + 1) % 6
        self.assert_broken(table, (1, 5))
        table[5][5] = 5
        self.assertEqual(broken(table)[:2], (2, 0))
        for size in range(2, 25):
            table = [[(a + b + 1) % size for b in range(size)] for a in range(size)]
            self.assert_broken(table, (1, 0))
            table[0][0] = 0
            self.assert_broken(table, (1, 1) if size > 2 else plain_broken(table))

    def test_all_lists_of_lists_up_to_three_colours(self):
        for size in (1, 2, 3):
            for table in all_square_lists(size):
                self.assertEqual(broken(table), plain_broken(table))

    def test_good_tables_with_numbers_changed(self):
        source = random.Random(5)
        for table in good_tables():
            size = len(table)
            for each in range(12 if 1 < size < 9 else 2 if size > 1 else 0):
                spoilt = [list(row) for row in table]
                for change in range(source.choice((1, 1, 2, 3))):
                    spoilt[source.randrange(size)][source.randrange(size)] = source.randrange(size)
                self.assertEqual(broken(spoilt), plain_broken(spoilt))

    def test_orders_in_each_column(self):
        # The first two rules are kept, the third one mostly not.
        source = random.Random(6)
        for size in (3, 4, 5, 6, 10):
            for each in range(60):
                columns = []
                for b in range(size):
                    others = [colour for colour in range(size) if colour != b]
                    source.shuffle(others)
                    columns.append(others[:b] + [b] + others[b:])
                table = [[column[a] for column in columns] for a in range(size)]
                told = broken(table)
                self.assertEqual(told, plain_broken(table))
                self.assertTrue(told is None or told[0] == 3)

    def test_own_lists(self):
        for table in good_tables():
            self.assert_own_lists(broken, table)
            if len(table) > 1:
                self.assert_own_lists(broken, with_number(table, len(table) - 1, 0, 0))
                self.assert_own_lists(broken, with_number(table, 1, 1, 0))


class Dual(PlaitTest):
    def test_tables_that_are_their_own_dual(self):
        for size in range(1, 25):
            for table in (formula_table(size, 1), formula_table(size, -1)):
                self.assertEqual(dual(table), table)
        swaps = conjugation_table([OF_THREE[1], OF_THREE[2], OF_THREE[5]])
        self.assertEqual(dual(swaps), swaps)

    def test_tables_that_are_not(self):
        self.assertEqual(dual(formula_table(5, 2)), formula_table(5, 3))
        self.assertEqual(dual(formula_table(7, 3)), formula_table(7, 5))
        self.assertEqual(dual(formula_table(24, 5)), formula_table(24, 5))
        self.assertEqual(dual(formula_table(23, 2)), formula_table(23, 12))
        for size in range(4, 25):
            round_again = [0] + list(range(2, size)) + [1]
            round_back = [0, size - 1] + list(range(1, size - 1))
            told = dual(one_column(size, 0, round_again))
            self.assertEqual(told, one_column(size, 0, round_back))
            self.assertNotEqual(told, one_column(size, 0, round_again))

    def test_good_tables(self):
        for table in good_tables():
            told = dual(table)
            self.assertEqual(told, plain_dual(table))
            self.assertIsNone(broken(told))
            self.assertEqual(dual(told), table)
            self.assert_whole(told)

    def test_by_and_back_at_each_two_colours(self):
        for table in good_tables():
            turned = plain_dual(table)
            for a, b in itertools.product(range(len(table)), repeat=2):
                forward = by(table, a, b)
                backward = back(table, a, b)
                self.assertEqual((forward, backward), (table[a][b], turned[a][b]))
                self.assertIs(type(forward), int)
                self.assertIs(type(backward), int)
                self.assertEqual((by(table, backward, b), back(table, forward, b)), (a, a))

    def test_own_lists(self):
        for table in good_tables():
            self.assert_own_lists(dual, table)
            self.assert_own_lists(by, table, 0, len(table) - 1)
            self.assert_own_lists(back, table, len(table) - 1, 0)


class AskedAnew(PlaitTest):
    def test_tables_that_were_changed(self):
        for one, other in zip(good_tables(), reversed(good_tables())):
            for function in (broken, dual):
                self.assert_asked_anew(function, (one,), (other,))
            self.assert_asked_anew(broken, (one,), ([[0, 1], [0, 1]],))
            for function in (by, back):
                self.assert_asked_anew(function, (one, 0, len(one) - 1), (other, 0, len(other) - 1))


class ByFormula(PlaitTest):
    def test_still(self):
        self.assertEqual(still(1), [[0]])
        self.assertEqual(still(2), [[0, 0], [1, 1]])
        self.assertEqual(still(3), [[0, 0, 0], [1, 1, 1], [2, 2, 2]])
        for size in range(1, 25):
            told = still(size)
            self.assertEqual(told, [[a] * size for a in range(size)])
            self.assertIsNone(plain_broken(told))

    def test_turns(self):
        self.assertEqual(turns(1), [[0]])
        self.assertEqual(turns(2), [[0, 0], [1, 1]])
        self.assertEqual(turns(3), [[0, 2, 1], [2, 1, 0], [1, 0, 2]])
        self.assertEqual(turns(4)[3], [1, 3, 1, 3])
        for size in range(1, 25):
            told = turns(size)
            self.assertEqual(told, [[(2 * b - a) % size for b in range(size)] for a in range(size)])
            self.assertIsNone(plain_broken(told))

    def test_too_big(self):
        for size in FAR_SIZES:
            self.assert_refused(TooBig, still, size)
            self.assert_refused(TooBig, turns, size)
            for factor in (1, -1, 5, BIG):
                self.assert_refused(TooBig, scaled, size, factor)

    def test_too_big_goes_ahead_of_no_unit(self):
        for size in FAR_SIZES:
            for factor in (0, size, -size, 2 * size, -3 * size):
                self.assert_refused(TooBig, scaled, size, factor)
        for factor in (0, 5, -5, 10, 5 * 10 ** 58):
            self.assert_refused(TooBig, scaled, 25, factor)

    def test_scaled(self):
        expected = [[0, 4, 3, 2, 1], [2, 1, 0, 4, 3], [4, 3, 2, 1, 0], [1, 0, 4, 3, 2], [3, 2, 1, 0, 4]]
        self.assertEqual(scaled(5, 2), expected)
        self.assertEqual(scaled(4, 3), turns(4))
        for size in range(1, 25):
            self.assertEqual(scaled(size, 1), still(size))
            self.assertEqual(scaled(size, -1), turns(size))

    def test_size_one_takes_every_factor(self):
        for factor in (0, 1, -1, 2, -2, 24, 10 ** 59, BIG, -BIG):
            self.assertEqual(scaled(1, factor), [[0]])

    def test_factors_of_either_sign_and_of_sixty_figures(self):
        source = random.Random(8)
        far = [source.choice((1, -1)) * source.randrange(10 ** 59, 10 ** 60) for each in range(20)]
        for size in range(1, 25):
            for factor in list(range(-26, 27)) + far + [BIG, -BIG, 10 ** 59, -(10 ** 59)]:
                if math.gcd(factor, size) > 1:
                    self.assert_refused(NoUnit, scaled, size, factor)
                else:
                    told = scaled(size, factor)
                    self.assertEqual(told, formula_table(size, factor))
                    self.assert_whole(told)

    def test_scaled_is_good(self):
        for size in range(1, 25):
            for factor in (1, -1, 5, 7, 11, BIG, -BIG, 10 ** 59 + 1):
                if math.gcd(factor, size) == 1:
                    self.assertIsNone(plain_broken(scaled(size, factor)))

    def test_no_unit(self):
        for size in range(2, 25):
            for factor in (0, size, -size, size * 10 ** 57, -size * 10 ** 57):
                self.assert_refused(NoUnit, scaled, size, factor)
        for size, factor in ((4, 2), (6, 3), (6, 4), (9, 6), (24, 9), (24, -22), (21, 14), (22, 33), (15, -10)):
            self.assert_refused(NoUnit, scaled, size, factor)

    def test_own_lists(self):
        for size in range(1, 25):
            self.assert_own_lists(still, size)
            self.assert_own_lists(turns, size)
            self.assert_own_lists(scaled, size, 1)
            self.assert_own_lists(scaled, size, size - 1)
            self.assert_own_lists(scaled, size, -BIG if math.gcd(BIG, size) == 1 else 1)


if __name__ == "__main__":
    unittest.main()
