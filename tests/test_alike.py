"""Points 24, 25, and 2, 3, 4 for plait/alike.py."""

import itertools
import random
import unittest

from plait.alike import keeping, kinds, like, shuts, unlike
from plait.errors import TooBig
from plait.every import tables
from tests.helpers import (
    BIG, OF_THREE, PlaitTest, SWAPS_OF_FOUR, conjugation_table, core_table, formula_table, good_tables, one_column,
    put_beside, relabelled, shuffled,
)

BIGGER = [
    formula_table(5, 1), formula_table(5, 2), formula_table(5, 3), formula_table(5, -1),
    put_beside(formula_table(2, 1), formula_table(3, -1)), one_column(5, 2, [1, 0, 2, 4, 3]),
    one_column(5, 4, [1, 2, 0, 3, 4]), one_column(5, 4, [1, 0, 2, 3, 4]),
    formula_table(6, 1), formula_table(6, -1), conjugation_table(OF_THREE), core_table(OF_THREE),
    conjugation_table(SWAPS_OF_FOUR), put_beside(formula_table(3, -1), formula_table(3, -1)),
    put_beside(formula_table(1, 1), formula_table(5, 2)), put_beside(formula_table(5, 3), formula_table(1, 1)),
    one_column(6, 5, [1, 2, 3, 4, 0, 5]), one_column(6, 5, [1, 2, 0, 4, 3, 5]), one_column(6, 0, [0, 2, 1, 3, 4, 5]),
]
ROUND_FIVE = one_column(6, 5, [1, 2, 3, 4, 0, 5])
BIG_TABLES = [table for table in good_tables() if len(table) > 6]
BIG_PAIRS = [(7, 7), (7, 2), (2, 7), (7, 6), (6, 7), (7, 8), (24, 1), (1, 24), (24, 24)]


def up_to_four():
    return [table for size in (1, 2, 3, 4) for table in tables(size)]


def is_way(one, other, images):
    colours = range(len(one))
    return all(images[one[a][b]] == other[images[a]][images[b]] for a in colours for b in colours)


def plain_like(one, other):
    if len(one) != len(other):
        return None
    orders = itertools.permutations(range(len(one)))
    return next((list(order) for order in orders if is_way(one, other, order)), None)


def plain_breaks(one, other, images, a, b):
    """Point 25 word by word, of two tables of one size."""
    places = range(len(images))
    if len(set(images)) < len(images) or any(image not in range(len(other)) for image in images):
        return False
    if a not in places or b not in places or one[a][b] not in places:
        return False
    return other[images[a]][images[b]] != images[one[a][b]]


def plain_shuts(one, other, paper):
    if len(one) != len(other):
        return True
    shut = [entry[0] for entry in paper if plain_breaks(one, other, *entry)]
    orders = itertools.permutations(range(len(one)))
    return all(any(order[:len(images)] == images for images in shut) for order in orders)


def long_paper(one, other):
    """For each whole list its first breach: each tuple is needed."""
    size = len(one)
    told = []
    for order in itertools.permutations(range(size)):
        pairs = itertools.product(range(size), repeat=2)
        a, b = next((a, b) for a, b in pairs if order[one[a][b]] != other[order[a]][order[b]])
        told.append((order, a, b))
    return told


def unlike_pairs():
    """Tables of one size that are not alike, of each size that has such."""
    told = []
    for size in (3, 4, 5, 6):
        chosen = [table for table in up_to_four() + BIGGER if len(table) == size]
        pairs = [pair for pair in itertools.permutations(chosen, 2) if plain_like(*pair) is None]
        told += random.Random(size).sample(pairs, 8)
    return told


class Like(PlaitTest):
    def test_itself_moved_by_each_order(self):
        for table in up_to_four():
            for order in itertools.permutations(range(len(table))):
                other = relabelled(table, order)
                self.assertEqual(like(table, other), plain_like(table, other))
        for at, table in enumerate(BIGGER):
            for seed in range(4):
                other = relabelled(table, shuffled(len(table), 10 * at + seed))
                told = like(table, other)
                self.assertEqual(told, plain_like(table, other))
                self.assert_whole(told)

    def test_the_least_list(self):
        for size in range(1, 7):
            self.assertEqual(like(formula_table(size, 1), formula_table(size, 1)), list(range(size)))
            self.assertEqual(like(formula_table(size, -1), formula_table(size, -1)), list(range(size)))
        table = one_column(3, 0, [0, 2, 1])
        self.assertEqual(like(table, one_column(3, 2, [1, 0, 2])), [2, 0, 1])
        self.assertEqual(like(one_column(3, 2, [1, 0, 2]), table), [1, 2, 0])
        self.assertEqual(like(ROUND_FIVE, one_column(6, 0, [0, 2, 3, 4, 5, 1])), [1, 2, 3, 4, 5, 0])
        self.assertEqual(like(ROUND_FIVE, one_column(6, 0, [0, 5, 1, 2, 3, 4])), [1, 5, 4, 3, 2, 0])

    def test_each_two_tables(self):
        chosen = up_to_four() + BIGGER
        found = 0
        for one, other in itertools.product(chosen, repeat=2):
            told = like(one, other)
            self.assertEqual(told, plain_like(one, other))
            found += told is None and len(one) == len(other)
        self.assertGreater(found, 100)

    def test_not_alike(self):
        self.assertIsNone(like(formula_table(5, 2), formula_table(5, 3)))
        self.assertIsNone(like(formula_table(3, 1), formula_table(3, -1)))
        self.assertIsNone(like(formula_table(6, 1), formula_table(6, -1)))

    def test_unlike_sizes(self):
        for one, other in itertools.permutations(range(1, 7), 2):
            for factor in (1, -1):
                self.assertIsNone(like(formula_table(one, factor), formula_table(other, factor)))

    def test_too_big(self):
        for one, other in BIG_PAIRS:
            self.assert_refused(TooBig, like, formula_table(one, 1), formula_table(other, 1))
        for table in BIG_TABLES:
            self.assert_refused(TooBig, like, table, table)

    def test_own_lists(self):
        for table in up_to_four() + BIGGER:
            self.assert_own_lists(like, table, table)
            self.assert_own_lists(like, table, relabelled(table, shuffled(len(table), 5)))
            self.assert_own_lists(like, table, formula_table(5, 2))


class Kinds(PlaitTest):
    def test_small_ones(self):
        self.assertEqual(kinds(1), [[[0]]])
        self.assertEqual(kinds(2), [[[0, 0], [1, 1]]])
        self.assertEqual(kinds(3), [formula_table(3, 1), one_column(3, 0, [0, 2, 1]), formula_table(3, -1)])

    def test_none_alike_to_one_ahead_and_all_alike_to_one(self):
        for size, count in ((1, 1), (2, 1), (3, 3), (4, 7)):
            every = tables(size)
            expected = []
            for at, table in enumerate(every):
                if all(plain_like(ahead, table) is None for ahead in every[:at]):
                    expected.append(table)
            told = kinds(size)
            self.assertEqual(told, expected)
            self.assertEqual(len(told), count)
            self.assert_whole(told)
            for table in every:
                self.assertEqual(sum(plain_like(kind, table) is not None for kind in told), 1)

    def test_too_big(self):
        for size in (5, 6, 7, 25, 10 ** 30, BIG):
            self.assert_refused(TooBig, kinds, size)

    def test_own_lists(self):
        for size in (1, 2, 3, 4):
            self.assert_own_lists(kinds, size)


class Unlike(PlaitTest):
    def assert_paper(self, one, other):
        paper = unlike(one, other)
        self.assertIs(type(paper), list)
        self.assertLessEqual(len(paper), 1000)
        for entry in paper:
            self.assertIs(type(entry), tuple)
            self.assertEqual(len(entry), 3)
            self.assertIs(type(entry[0]), tuple)
        self.assert_whole(paper)
        self.assertTrue(plain_shuts(one, other, paper))
        self.assertIs(shuts(one, other, paper), True)

    def test_each_two_tables(self):
        for size in range(1, 7):
            chosen = [table for table in up_to_four() + BIGGER if len(table) == size]
            for one, other in itertools.product(chosen, repeat=2):
                if plain_like(one, other) is None:
                    self.assert_paper(one, other)
                else:
                    self.assertIsNone(unlike(one, other))

    def test_alike_ones(self):
        for at, table in enumerate(up_to_four() + BIGGER):
            self.assertIsNone(unlike(table, table))
            self.assertIsNone(unlike(table, relabelled(table, shuffled(len(table), at))))

    def test_unlike_sizes(self):
        for one, other in itertools.permutations(range(1, 7), 2):
            for factor in (1, -1):
                self.assert_paper(formula_table(one, factor), formula_table(other, factor))

    def test_too_big(self):
        for one, other in BIG_PAIRS:
            self.assert_refused(TooBig, unlike, formula_table(one, 1), formula_table(other, 1))
        for table in BIG_TABLES:
            self.assert_refused(TooBig, unlike, table, table)

    def test_own_lists(self):
        for one, other in unlike_pairs():
            self.assert_own_lists(unlike, one, other)
            self.assert_own_lists(unlike, one, one)
            self.assert_own_lists(unlike, one, formula_table(2, 1))


class Shuts(PlaitTest):
    def test_papers_that_shut_all_but_one_list(self):
        for one, other in unlike_pairs():
            paper = long_paper(one, other)
            self.assertIs(shuts(one, other, paper), True)
            for at in sorted({0, len(paper) // 2, len(paper) - 1}):
                self.assertIs(shuts(one, other, paper[:at] + paper[at + 1:]), False)
            random.Random(1).shuffle(paper)
            self.assertIs(shuts(one, other, paper + paper[:3]), True)
            self.assertIs(shuts(one, other, paper[1:] + paper[1:3]), False)

    def test_the_paper_without_tuples(self):
        for table in up_to_four() + BIGGER:
            self.assertIs(shuts(table, table, []), False)
        for one, other in unlike_pairs():
            self.assertIs(shuts(one, other, []), False)

    def test_tuples_that_do_not_break_are_not_looked_at(self):
        for one, other in unlike_pairs():
            size = len(one)
            paper = long_paper(one, other)
            images, a, b = paper[0]
            junk = [
                ((0, 0), 0, 1), (images + images[:1], a, b), (images + (size,), a, b), ((size,), 0, 0),
                ((-1,) + images[1:], a, b), (tuple(image - size for image in images), a, b), ((BIG, -BIG), 0, 1),
                (images, a - size, b), (images, a, b - size), (images, a - size, b - size), (images, -1, -1),
                (images, size, b), (images, a, size), (images, BIG, b), (images, a, -BIG),
                (images, a, a), ((), 0, 0), ((), -1, -1), (images[:1], 0, 0), (images[:1], 1, 0),
            ]
            for entry in junk:
                self.assertFalse(plain_breaks(one, other, *entry))
                self.assertIs(shuts(one, other, [entry] + paper[1:]), False)
                self.assertIs(shuts(one, other, [entry] + paper), True)
            self.assertIs(shuts(one, other, junk + paper[1:]), False)
            self.assertIs(shuts(one, other, junk + paper), True)
            self.assertIs(shuts(one, other, paper[1:] + junk + paper[:1]), True)

    def test_a_and_b_and_a_by_b_are_places_of_images(self):
        # Each beginning of the first list, with each two numbers: it shuts that list just where it breaks.
        for one, other in unlike_pairs()[:20]:
            paper = long_paper(one, other)
            whole = paper[0][0]
            seen = set()
            for length in range(len(whole) + 1):
                for a, b in itertools.product(range(-2, len(whole) + 1), repeat=2):
                    entry = (whole[:length], a, b)
                    expected = plain_breaks(one, other, *entry)
                    self.assertIs(shuts(one, other, paper[1:] + [entry]), expected)
                    seen.add(expected)
            self.assertEqual(seen, {True, False})

    def test_the_tables_are_not_taken_for_one_another(self):
        # By the first table 0 by 2 is 1; the second one lets all stay.
        one, other = one_column(3, 2, [1, 0, 2]), formula_table(3, 1)
        entries = [((0, 1, 2), 0, 2), ((0, 2, 1), 0, 2), ((1, 0, 2), 1, 2), ((1, 2, 0), 1, 2), ((2, 0, 1), 0, 2)]
        self.assertIs(shuts(one, other, entries + [((2, 1, 0), 0, 2)]), True)
        self.assertIs(shuts(one, other, entries + [((2, 1, 0), 0, 1)]), False)
        self.assertIs(shuts(other, one, [((2,), 0, 0)] + entries), False)

    def test_short_beginnings(self):
        one, other = one_column(4, 0, [0, 1, 3, 2]), one_column(4, 0, [0, 2, 3, 1])
        for first, second in ((one, other), (other, one)):
            paper = unlike(first, second)
            self.assertIs(shuts(first, second, paper), True)
            for at in range(len(paper)):
                less = paper[:at] + paper[at + 1:]
                self.assertIs(shuts(first, second, less), plain_shuts(first, second, less))

    def test_alike_ones_are_never_shut(self):
        for table in (formula_table(3, -1), formula_table(4, -1), one_column(4, 0, [0, 2, 3, 1])):
            size = len(table)
            paper = []
            for length in range(1, size + 1):
                for images in itertools.permutations(range(size), length):
                    paper += [(images, a, b) for a in range(size) for b in range(size)]
            for other in (table, relabelled(table, shuffled(size, 2))):
                kept = [entry for entry in paper if plain_breaks(table, other, *entry)]
                self.assertIs(shuts(table, other, kept[:1000]), False)

    def test_papers_at_will(self):
        source = random.Random(11)
        seen = {True: 0, False: 0}
        for each in range(300):
            chosen = tables(source.choice((2, 3, 3, 3)))
            one, other = source.choice(chosen), source.choice(chosen)
            size = len(one)
            paper = []
            for entry in range(source.randrange(500)):
                images = tuple(source.randrange(-1, size + 1) for place in range(source.randrange(1, size + 2)))
                if source.random() < 0.8:
                    images = tuple(shuffled(size, source.randrange(10 ** 6))[:source.randrange(1, size + 1)])
                paper.append((images, source.randrange(-1, size + 1), source.randrange(-1, size + 1)))
            expected = plain_shuts(one, other, paper)
            self.assertIs(shuts(one, other, paper), expected)
            seen[expected] += 1
        self.assertGreater(min(seen.values()), 10)

    def test_unlike_sizes(self):
        for one, other in itertools.permutations(range(1, 7), 2):
            for paper in ([], [((), 0, 0)], [((0, 0), 5, 5)], [((BIG, -BIG), BIG, -BIG)], [((0,), 0, 0)] * 1000):
                self.assertIs(shuts(formula_table(one, 1), formula_table(other, -1), paper), True)

    def test_too_big(self):
        for one, other in BIG_PAIRS:
            for paper in ([], [((0, 1), 0, 1)]):
                self.assert_refused(TooBig, shuts, formula_table(one, 1), formula_table(other, -1), paper)
        for table in BIG_TABLES:
            self.assert_refused(TooBig, shuts, table, table, [])

    def test_own_lists(self):
        for one, other in unlike_pairs():
            self.assert_own_lists(shuts, one, other, unlike(one, other))
            self.assert_own_lists(shuts, one, one, [((0, 1), 0, 1)])
            self.assert_own_lists(shuts, one, formula_table(2, 1), [])


class AskedAnew(PlaitTest):
    def test_tables_and_papers_that_were_changed(self):
        for one, other in unlike_pairs():
            paper = long_paper(one, other)
            for function in (like, unlike):
                self.assert_asked_anew(function, (one, other), (one, one))
                self.assert_asked_anew(function, (one, one), (one, other))
            self.assert_asked_anew(shuts, (one, other, paper), (one, other, paper[1:]))
            self.assert_asked_anew(shuts, (one, one, paper[1:]), (one, other, paper))
            images = list(range(len(one)))
            self.assert_asked_anew(keeping, (one, other, images), (one, one, images))
            self.assert_asked_anew(keeping, (one, one, images), (one, one, images[1:]))


class Keeping(PlaitTest):
    def assert_keeping(self, one, other, images):
        right = len(images) == len(one) and all(0 <= image < len(other) for image in images)
        expected = right and is_way(one, other, images)
        self.assertIs(keeping(one, other, images), expected)
        return expected

    def test_all_lists_of_small_tables(self):
        chosen = tables(1) + tables(2) + tables(3)
        for one, other in itertools.product(chosen, repeat=2):
            for length in range(len(one) + 2):
                for images in itertools.product(range(-1, len(other) + 1), repeat=length):
                    self.assert_keeping(one, other, list(images))

    def test_ways_of_alike_tables(self):
        for at, table in enumerate(up_to_four() + good_tables()):
            size = len(table)
            order = shuffled(size, at)
            self.assertIs(keeping(table, relabelled(table, order), order), True)
            self.assertIs(keeping(table, table, list(range(size))), True)

    def test_several_the_same(self):
        self.assertIs(keeping(formula_table(24, -1), formula_table(12, -1), list(range(12)) * 2), True)
        self.assertIs(keeping(formula_table(24, -1), formula_table(3, -1), list(range(3)) * 8), True)
        self.assertIs(keeping(formula_table(24, -1), formula_table(5, -1), [a % 5 for a in range(24)]), False)
        self.assertIs(keeping(formula_table(3, -1), formula_table(24, -1), [0, 8, 16]), True)
        self.assertIs(keeping(formula_table(3, -1), formula_table(24, -1), [0, 8, 15]), False)
        for one, other in itertools.product(good_tables()[::9], repeat=2):
            for colour in sorted({0, len(other) // 2, len(other) - 1}):
                self.assertIs(keeping(one, other, [colour] * len(one)), True)

    def test_too_short_and_too_long(self):
        for table in good_tables():
            size = len(table)
            self.assertIs(keeping(table, table, list(range(size - 1))), False)
            self.assertIs(keeping(table, table, list(range(size)) + [0]), False)
            self.assertIs(keeping(table, table, []), False)
            self.assertIs(keeping(table, table, [0] * 90), False)

    def test_numbers_that_are_no_colours(self):
        for table in good_tables():
            size = len(table)
            for place in sorted({0, size - 1}):
                for wrong in (-1, -size, place - size, size, size + 1, BIG, -BIG):
                    images = list(range(size))
                    images[place] = wrong
                    self.assertIs(keeping(table, table, images), False)
            self.assertIs(keeping(table, table, [-1] * size), False)
            self.assertIs(keeping(table, [[0]], [1] * size), False)

    def test_one_image_wrong(self):
        source = random.Random(4)
        kept = []
        for table in good_tables():
            size = len(table)
            for each in range(4):
                images = list(range(size))
                images[source.randrange(size)] = source.randrange(size)
                kept.append(self.assert_keeping(table, table, images))
        self.assertEqual(set(kept), {True, False})

    def test_it_refuses_nothing(self):
        for one, other in BIG_PAIRS:
            self.assertIs(keeping(formula_table(one, 1), formula_table(other, -1), [0] * one), True)

    def test_own_lists(self):
        for table in good_tables():
            size = len(table)
            for images in (list(range(size)), [0] * size, [], shuffled(size, 3), [size] * size):
                self.assert_own_lists(keeping, table, table, images)


if __name__ == "__main__":
    unittest.main()
