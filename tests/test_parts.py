"""Points 18, 19, and 2, 3, 4 for plait/parts.py."""

import itertools
import random
import unittest

from plait.errors import NotClosed
from plait.parts import grown, orbits, part
from tests.helpers import (
    OF_FOUR, PlaitTest, SWAPS_OF_FOUR, conjugation_table, formula_table, good_tables, one_column, plain_broken,
    put_beside, relabelled, shuffled,
)

TABLES = good_tables()


def plain_members(table, some):
    found = set(some)
    while True:
        more = found | {table[a][b] for a in found for b in found}
        if more == found:
            return sorted(found)
        found = more


def plain_orbits(table):
    """Steps both ways, from each colour as far as they lead."""
    size = len(table)
    linked = {a: set() for a in range(size)}
    for a, row in enumerate(table):
        for colour in row:
            linked[a].add(colour)
            linked[colour].add(a)
    told = []
    for a in range(size):
        reached = {a}
        for each in range(size):
            reached |= {colour for found in reached for colour in linked[found]}
        if sorted(reached) not in told:
            told.append(sorted(reached))
    return told


def some_lists(table, seed):
    """Lists of colours: none, each one alone, all, two, some of them many times and in any order."""
    size = len(table)
    source = random.Random(seed)
    told = [[], list(range(size)), list(range(size - 1, -1, -1)), [size - 1] * 90]
    told += [[colour] for colour in range(size)]
    told += [[source.randrange(size), source.randrange(size)] for each in range(6)]
    told += [[source.randrange(size) for each in range(length)] for length in (3, 4, 5, 90)]
    return told


class Grown(PlaitTest):
    def assert_grown(self, table, some):
        told = grown(table, some)
        self.assertIs(type(told), tuple)
        self.assertEqual(len(told), 2)
        members, steps = told
        self.assert_whole(told)
        self.assertEqual(members, plain_members(table, some))
        self.assertEqual(sorted(step[0] for step in steps), sorted(set(members) - set(some)))
        known = set(some)
        for step in steps:
            self.assertIs(type(step), tuple)
            c, a, b = step
            self.assertIn(a, known)
            self.assertIn(b, known)
            self.assertEqual(table[a][b], c)
            known.add(c)

    def test_of_no_colours(self):
        for table in TABLES:
            self.assertEqual(grown(table, []), ([], []))

    def test_of_one_colour_and_of_all(self):
        for table in TABLES:
            size = len(table)
            for colour in range(size):
                self.assertEqual(grown(table, [colour]), ([colour], []))
            self.assertEqual(grown(table, list(range(size))), (list(range(size)), []))
            self.assertEqual(grown(table, list(range(size - 1, -1, -1)) * 2), (list(range(size)), []))

    def test_well_known_ones(self):
        self.assertEqual(grown(formula_table(24, -1), [20, 4, 4, 12])[0], [4, 12, 20])
        self.assertEqual(grown(formula_table(24, -1), [0, 16])[0], [0, 8, 16])
        self.assertEqual(grown(formula_table(23, -1), [7, 3])[0], list(range(23)))
        self.assertEqual(grown(formula_table(9, 1), [7, 3, 3, 0]), ([0, 3, 7], []))
        members, steps = grown(formula_table(3, -1), [2, 0])
        self.assertEqual(members, [0, 1, 2])
        self.assertIn(steps, ([(1, 2, 0)], [(1, 0, 2)]))
        swaps = conjugation_table(SWAPS_OF_FOUR)
        self.assertEqual(len(grown(swaps, [0, 1])[0]), 3)

    def test_many_lists(self):
        for at, table in enumerate(TABLES):
            for some in some_lists(table, at):
                self.assert_grown(table, some)

    def test_all_lists_of_small_tables(self):
        for table in TABLES:
            if len(table) <= 4:
                for length in range(4):
                    for some in itertools.product(range(len(table)), repeat=length):
                        self.assert_grown(table, list(some))

    def test_own_lists(self):
        for at, table in enumerate(TABLES):
            for some in some_lists(table, at)[:4] + some_lists(table, at)[-3:]:
                self.assert_own_lists(grown, table, some)


class Part(PlaitTest):
    def assert_part(self, table, members):
        told = part(table, members)
        expected = [[members.index(table[a][b]) for b in members] for a in members]
        self.assertEqual(told, expected)
        self.assert_whole(told)
        self.assertIsNone(plain_broken(told))

    def test_well_known_ones(self):
        self.assertEqual(part(formula_table(9, -1), [1, 4, 7]), formula_table(3, -1))
        self.assertEqual(part(formula_table(24, 7), [0, 6, 12, 18]), formula_table(4, 3))
        self.assertEqual(part(put_beside([[0]], formula_table(5, 2)), [1, 2, 3, 4, 5]), formula_table(5, 2))
        self.assertEqual(part(put_beside([[0]], formula_table(5, 2)), [0, 3]), [[0, 0], [1, 1]])

    def test_closed_lists(self):
        for at, table in enumerate(TABLES):
            size = len(table)
            self.assertEqual(part(table, list(range(size))), table)
            for colour in range(size):
                self.assertEqual(part(table, [colour]), [[0]])
            for some in some_lists(table, at):
                if some:
                    self.assert_part(table, plain_members(table, some))

    def test_all_rising_lists_of_small_tables(self):
        for table in TABLES:
            if len(table) <= 6:
                for length in range(len(table) + 1):
                    for some in itertools.combinations(range(len(table)), length):
                        if some and plain_members(table, some) == list(some):
                            self.assert_part(table, list(some))
                        else:
                            self.assert_refused(NotClosed, part, table, list(some))

    def test_the_list_without_colours(self):
        for table in TABLES:
            self.assert_refused(NotClosed, part, table, [])

    def test_lists_that_are_not_closed(self):
        self.assert_refused(NotClosed, part, formula_table(3, -1), [0, 1])
        self.assert_refused(NotClosed, part, formula_table(24, -1), list(range(23)))
        self.assert_refused(NotClosed, part, formula_table(24, -1), list(range(1, 24)))
        # By the one colour 0 alone the others go round: without it each list of them is closed.
        table = one_column(24, 0, [0] + list(range(2, 24)) + [1])
        self.assert_part(table, list(range(1, 24)))
        self.assert_part(table, [3, 5, 8])
        self.assert_refused(NotClosed, part, table, [0, 3, 5, 8])
        self.assert_refused(NotClosed, part, table, [0, 1])

    def test_refused_once_and_taken_then(self):
        table, members = formula_table(9, -1), [0, 3]
        self.assert_refused(NotClosed, part, table, members)
        members.append(6)
        self.assertEqual(part(table, members), formula_table(3, -1))

    def test_own_lists(self):
        for at, table in enumerate(TABLES):
            self.assert_own_lists(part, table, list(range(len(table))))
            for some in some_lists(table, at)[-7:]:
                self.assert_own_lists(part, table, plain_members(table, some))


class AskedAnew(PlaitTest):
    def test_tables_and_lists_that_were_changed(self):
        for one, other in zip(TABLES, reversed(TABLES)):
            first, last = [0, len(one) - 1], [len(other) - 1, 0]
            self.assert_asked_anew(grown, (one, first), (other, last))
            self.assert_asked_anew(part, (one, plain_members(one, first)), (other, plain_members(other, last)))
            self.assert_asked_anew(orbits, (one,), (other,))


class Orbits(PlaitTest):
    def test_one_orbit(self):
        for size in range(1, 25, 2):
            self.assertEqual(orbits(formula_table(size, -1)), [list(range(size))])
        for size in (5, 7, 11, 13, 17, 19, 23):
            self.assertEqual(orbits(formula_table(size, 2)), [list(range(size))])

    def test_as_many_as_colours(self):
        for size in range(1, 25):
            self.assertEqual(orbits(formula_table(size, 1)), [[colour] for colour in range(size)])

    def test_unlike_sizes(self):
        for size in range(4, 25, 2):
            self.assertEqual(orbits(formula_table(size, -1)), [list(range(0, size, 2)), list(range(1, size, 2))])
        table = put_beside(put_beside(formula_table(3, -1), formula_table(2, 1)), formula_table(5, 2))
        self.assertEqual(orbits(table), [[0, 1, 2], [3], [4], [5, 6, 7, 8, 9]])
        places = [9, 0, 4, 3, 1, 8, 2, 7, 6, 5]
        self.assertEqual(orbits(relabelled(table, places)), [[0, 4, 9], [1], [2, 5, 6, 7, 8], [3]])
        classes = sorted(len(orbit) for orbit in orbits(conjugation_table(OF_FOUR)))
        self.assertEqual(classes, [1, 3, 6, 6, 8])

    def test_long_rounds(self):
        for size in range(3, 25):
            last = size - 1
            forward = list(range(1, last)) + [0, last]
            backward = [last - 1] + list(range(last - 1)) + [last]
            for images in (forward, backward):
                self.assertEqual(orbits(one_column(size, last, images)), [list(range(last)), [last]])

    def test_orbits_that_only_a_step_backward_joins(self):
        # 0 goes to 5 and 5 to 3; 1 is joined with them only as what becomes 0.
        table = one_column(7, 6, [5, 0, 2, 1, 4, 3, 6])
        self.assertEqual(orbits(table), [[0, 1, 3, 5], [2], [4], [6]])
        table = one_column(7, 0, [0, 1, 6, 4, 2, 5, 3])
        self.assertEqual(orbits(table), [[0], [1], [2, 3, 4, 6], [5]])

    def test_good_tables(self):
        for at, table in enumerate(TABLES):
            for each in (table, relabelled(table, shuffled(len(table), at))):
                told = orbits(each)
                self.assertEqual(told, plain_orbits(each))
                self.assert_whole(told)

    def test_own_lists(self):
        for table in TABLES:
            self.assert_own_lists(orbits, table)


if __name__ == "__main__":
    unittest.main()
