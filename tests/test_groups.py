"""Points 20, 21, and 2, 3, 4 for plait/groups.py."""

import itertools
import random
import unittest

from plait.errors import TooBig
from plait.groups import both, cycle, group_broken, inverse, orders
from tests.helpers import BIG, OF_FOUR, OF_THREE, PlaitTest, good_groups, group_of, paired_group, relabelled

GROUPS = good_groups()
BY_SIZE = {size: [group for group in GROUPS if len(group) == size] for size in range(1, 25)}


def plain_cycle(size):
    return [[(a + b) % size for b in range(size)] for a in range(size)]


def plain_group_broken(group):
    """Point 20 word by word: all breaches, and the first of them."""
    numbers = range(len(group))
    found = [(1, a) for a in numbers if group[0][a] != a or group[a][0] != a]
    found += [(2, a) for a in numbers if all(group[a][b] != 0 for b in numbers)]
    for a, b, c in itertools.product(numbers, repeat=3):
        if group[group[a][b]][c] != group[a][group[b][c]]:
            found.append((3, a, b, c))
    return min(found, default=None)


def with_number(group, a, b, number):
    told = [list(row) for row in group]
    told[a][b] = number
    return told


def with_chain(group, more):
    """The group, and so many numbers above it, of which with any other the greater one is the product."""
    size = len(group)
    told = [list(row) + list(range(size, size + more)) for row in group]
    for a in range(size, size + more):
        told.append([max(a, b) for b in range(size + more)])
    return told


class GroupBroken(PlaitTest):
    def assert_broken(self, group, expected):
        for each in range(2):
            told = group_broken(group)
            self.assertEqual(told, expected)
            self.assertIs(type(told), tuple)
            self.assert_whole(told)
        self.assertEqual(expected, plain_group_broken(group))

    def test_groups_of_all_sizes(self):
        self.assertTrue(all(BY_SIZE.values()))
        for group in GROUPS:
            self.assertIsNone(group_broken(group))

    def test_nought_by_a_and_a_by_nought(self):
        for size in range(2, 25):
            group = BY_SIZE[size][-1]
            for a in sorted({0, size // 2, size - 1}):
                wrong = (a + 1) % size
                self.assert_broken(with_number(group, 0, a, wrong), (1, a))
                self.assert_broken(with_number(group, a, 0, wrong), (1, a))
                self.assert_broken(with_number(with_number(group, 0, a, wrong), a, 0, wrong), (1, a))

    def test_the_first_rule_by_itself(self):
        # A group in which another number than 0 is the one that changes nothing.
        for size in range(2, 25):
            for unit in sorted({1, size // 2, size - 1} - {0}):
                places = list(range(size))
                places[0], places[unit] = unit, 0
                self.assert_broken(relabelled(BY_SIZE[size][0], places), (1, 0))
        # The product is always the first one, but for 0: a.0 is right, 0.a only where a is 0.
        for size in (3, 8, 24):
            self.assert_broken([[a] * size for a in range(size)], (1, 1))
            self.assert_broken([list(range(size)) for a in range(size)], (1, 1))

    def test_the_second_rule_by_itself(self):
        for size in (1, 2, 5, 12, 23):
            group = BY_SIZE[size][-1]
            self.assert_broken(with_chain(group, 1), (2, size))
            if size < 20:
                self.assert_broken(with_chain(group, 4), (2, size))
        for size in (2, 7, 24):
            self.assert_broken([[max(a, b) for b in range(size)] for a in range(size)], (2, 1))
            # 0 is the one that changes nothing, and of the others the first one is the product.
            self.assert_broken([[b if a == 0 else a for b in range(size)] for a in range(size)], (2, 1))

    def test_the_second_rule_asks_for_a_number_behind(self):
        # 2.1 is 0, but 1.b is 0 for no b.
        self.assert_broken([[0, 1, 2], [1, 1, 1], [2, 0, 0]], (2, 1))
        # 1.2 and 2.2 are 0, so each has one, though b.1 is 0 for no b.
        self.assertEqual(group_broken([[0, 1, 2], [1, 2, 0], [2, 1, 0]])[0], 3)

    def test_the_third_rule_by_itself(self):
        for size in range(3, 25):
            group = plain_cycle(size)
            for a in sorted({1, size // 2, size - 1}):
                for b in sorted({1, size // 2, size - 1}):
                    if (a + b) % size != 0:
                        spoilt = with_number(group, a, b, (a + b + 1) % size)
                        told = plain_group_broken(spoilt)
                        self.assertEqual(told[0], 3)
                        self.assert_broken(spoilt, told)

    def test_the_least_a_then_b_then_c(self):
        loop = [[0, 1, 2, 3, 4], [1, 0, 3, 4, 2], [2, 4, 0, 1, 3], [3, 2, 4, 0, 1], [4, 3, 1, 2, 0]]
        # (1.1).2 is 2, but 1.(1.2) is 1.3 and 4.
        self.assert_broken(loop, (3, 1, 1, 2))
        ahead = paired_group(plain_cycle(4), loop)
        self.assert_broken(ahead, plain_group_broken(ahead))
        behind = paired_group(loop, plain_cycle(4))
        self.assert_broken(behind, plain_group_broken(behind))

    def test_several_at_once(self):
        group = with_number(plain_cycle(6), 2, 3, 0)
        self.assertEqual(group_broken(group)[0], 3)
        group = with_number(group, 4, 2, 1)
        self.assert_broken(group, (2, 4))
        group = with_number(group, 5, 0, 0)
        self.assert_broken(group, (1, 5))
        group = with_number(group, 0, 3, 5)
        self.assert_broken(group, (1, 3))
        for size in (1, 2, 24):
            self.assertEqual(group_broken([[0] * size for each in range(size)]), (1, 1) if size > 1 else None)

    def test_all_lists_of_lists_up_to_three(self):
        for size in (1, 2, 3):
            for numbers in itertools.product(range(size), repeat=size * size):
                group = [list(numbers[start:start + size]) for start in range(0, size * size, size)]
                self.assertEqual(group_broken(group), plain_group_broken(group))

    def test_groups_with_numbers_changed(self):
        source = random.Random(3)
        for group in GROUPS:
            size = len(group)
            for each in range(10 if 1 < size < 9 else 2 if size > 1 else 0):
                spoilt = group
                for change in range(source.choice((1, 1, 2, 3))):
                    a, b = source.randrange(size), source.randrange(size)
                    spoilt = with_number(spoilt, a, b, source.randrange(size))
                self.assertEqual(group_broken(spoilt), plain_group_broken(spoilt))

    def test_own_lists(self):
        for group in GROUPS:
            self.assert_own_lists(group_broken, group)
            if len(group) > 1:
                self.assert_own_lists(group_broken, with_number(group, 1, 1, 1))
                self.assert_own_lists(group_broken, with_number(group, 0, 0, 1))


class Cycle(PlaitTest):
    def test_sizes(self):
        self.assertEqual(cycle(1), [[0]])
        self.assertEqual(cycle(3), [[0, 1, 2], [1, 2, 0], [2, 0, 1]])
        for size in range(1, 25):
            told = cycle(size)
            self.assertEqual(told, plain_cycle(size))
            self.assertIsNone(plain_group_broken(told))
            self.assert_whole(told)

    def test_too_big(self):
        for size in (25, 26, 90, 10 ** 30, BIG):
            self.assert_refused(TooBig, cycle, size)

    def test_own_lists(self):
        for size in range(1, 25):
            self.assert_own_lists(cycle, size)


class Orders(PlaitTest):
    def test_small_ones(self):
        self.assertEqual(orders(1), [[0]])
        self.assertEqual(orders(2), [[0, 1], [1, 0]])
        self.assertEqual(orders(3)[3][1], 5)
        self.assertEqual(orders(3)[1][3], 2)

    def test_word_by_word(self):
        for count in (1, 2, 3, 4):
            lists = list(itertools.permutations(range(count)))
            told = orders(count)
            self.assertEqual(len(told), len(lists))
            for a, b in itertools.product(range(len(lists)), repeat=2):
                expected = tuple(lists[b][lists[a][place]] for place in range(count))
                self.assertEqual(lists[told[a][b]], expected)
            self.assertIsNone(plain_group_broken(told))
            self.assert_whole(told)
        self.assertEqual(orders(3), group_of(OF_THREE))
        self.assertEqual(orders(4), group_of(OF_FOUR))

    def test_too_big(self):
        for count in (5, 6, 24, 10 ** 30, BIG):
            self.assert_refused(TooBig, orders, count)

    def test_own_lists(self):
        for count in (1, 2, 3, 4):
            self.assert_own_lists(orders, count)


class Both(PlaitTest):
    def test_small_ones(self):
        self.assertEqual(both([[0]], [[0]]), [[0]])
        two = plain_cycle(2)
        self.assertEqual(both(two, two), [[0, 1, 2, 3], [1, 0, 3, 2], [2, 3, 0, 1], [3, 2, 1, 0]])
        self.assertEqual(both(two, plain_cycle(3))[4], [4, 5, 3, 1, 2, 0])
        self.assertEqual(both(plain_cycle(3), two)[3], [3, 2, 5, 4, 1, 0])

    def test_sizes_up_to_just_twenty_four(self):
        for first, second in itertools.product(range(1, 25), repeat=2):
            if first * second <= 24:
                for one, other in itertools.product(BY_SIZE[first][-2:], BY_SIZE[second][-2:]):
                    told = both(one, other)
                    self.assertEqual(told, paired_group(one, other))
                    self.assertIsNone(group_broken(told))
                    self.assert_whole(told)
                self.assert_own_lists(both, one, other)

    def test_one_group_twice(self):
        for size in range(1, 5):
            for group in BY_SIZE[size]:
                self.assertEqual(both(group, group), paired_group(group, group))
                self.assert_own_lists(both, group, group)

    def test_too_big(self):
        for first, second in itertools.product(range(1, 25), repeat=2):
            if first * second > 24:
                self.assert_refused(TooBig, both, BY_SIZE[first][0], BY_SIZE[second][-1])
        self.assert_refused(TooBig, both, BY_SIZE[5][0], BY_SIZE[5][0])


class AskedAnew(PlaitTest):
    def test_groups_that_were_changed(self):
        for one, other in zip(GROUPS, reversed(GROUPS)):
            self.assert_asked_anew(group_broken, (one,), ([[0, 1], [1, 1]],))
            self.assert_asked_anew(group_broken, ([[0, 1], [1, 1]],), (other,))
            self.assert_asked_anew(inverse, (one, len(one) - 1), (other, len(other) - 1))
            self.assert_asked_anew(both, (one, [[0]]), ([[0]], other))


class Inverse(PlaitTest):
    def test_each_number(self):
        self.assertEqual([inverse(plain_cycle(5), a) for a in range(5)], [0, 4, 3, 2, 1])
        self.assertEqual([inverse(group_of(OF_THREE), a) for a in range(6)], [0, 1, 2, 4, 3, 5])
        for group in GROUPS:
            self.assertEqual(inverse(group, 0), 0)
            for a in range(len(group)):
                told = inverse(group, a)
                self.assertIs(type(told), int)
                self.assertEqual((group[a][told], group[told][a]), (0, 0))

    def test_own_lists(self):
        for group in GROUPS:
            for a in sorted({0, len(group) // 2, len(group) - 1}):
                self.assert_own_lists(inverse, group, a)


if __name__ == "__main__":
    unittest.main()
