"""Points 37, 38, 39, 40, and 2, 3, 4, 5 for plait/straight.py."""

import itertools
import random
import unittest

from plait.chains import led
from plait.colours import colourings, many
from plait.errors import NoPrime, NoUnit
from plait.straight import equations, keeps, solved, straight_many
from plait.tables import scaled
from tests.helpers import (
    BIG, FAR, HOPF, TREFOIL, PlaitTest, chain_from, many_drawings, numbered, plain_arcs, plain_meets,
)

EMPTY = ([], [])
FIGURE_EIGHT = ([[1, -2, 3, -1, 4, -3, 2, -4]], [(1, 1), (2, -1), (3, -1), (4, 1)])
SMALL_PRIMES = (2, 3, 5, 7, 11, 13, 17, 19, 23)
LAST_PRIME = 99991
NO_PRIMES = [
    0, 1, -1, -2, -3, -7, 4, 6, 8, 9, 10, 15, 21, 25, 49, 77, 91, 121, 169, 99999, 100000, 316 * 316, 313 * 313,
    307 * 311, 100003, 100019, 2 * LAST_PRIME, LAST_PRIME ** 2, 10 ** 59, BIG, -BIG, 10 ** 59 + 3, 2 ** 89 - 1,
    2 ** 61 - 1, -LAST_PRIME,
]
FUNCTIONS = [equations, solved, straight_many]


def plain_primes(most):
    return [number for number in range(2, most + 1) if all(number % divisor for divisor in range(2, number))]


def arc_number(drawing):
    return len({arc for ways in plain_arcs(drawing) for arc in ways})


def plain_equations(drawing, prime, factor):
    """Point 37 word by word."""
    told = []
    for crossing, sign, over, inward, outward in plain_meets(drawing):
        row = []
        for arc in range(arc_number(drawing)):
            number = (1 - factor) * (arc == over)
            if sign == 1:
                number += factor * (arc == inward) - (arc == outward)
            else:
                number += factor * (arc == outward) - (arc == inward)
            row.append(number % prime)
        told.append(row)
    return told


def plain_keeps(drawing, prime, factor, colours):
    rows = plain_equations(drawing, prime, factor)
    return all(sum(number * colour for number, colour in zip(row, colours)) % prime == 0 for row in rows)


def combined(rows, factors, prime, width):
    return [sum(factor * row[arc] for factor, row in zip(factors, rows)) % prime for arc in range(width)]


def plain_tied(rows, prime, width):
    """Point 39 word by word, where all sums of the equations can be tried."""
    tied = set()
    for factors in itertools.product(range(prime), repeat=len(rows)):
        found = combined(rows, factors, prime, width)
        if any(found):
            tied.add(min(arc for arc in range(width) if found[arc]))
    return sorted(tied)


def asked():
    """Drawings with primes and factors, those of many figures and below nought among them."""
    factors = [1, 2, -1, 5, 12, -7, 10 ** 59 + 9, -(10 ** 59) - 3, BIG]
    for at, drawing in enumerate(many_drawings()[:90]):
        for prime in (2, 3, 7, LAST_PRIME, 46337)[at % 3::2]:
            factor = factors[at % len(factors)]
            if factor % prime:
                yield drawing, prime, factor


class Equations(PlaitTest):
    def test_by_hand(self):
        self.assertEqual(equations(TREFOIL, 7, 3), [[5, 3, 6], [3, 6, 5], [6, 5, 3]])
        self.assertEqual(equations(TREFOIL, 7, -1), [[2, 6, 6], [6, 6, 2], [6, 2, 6]])
        # Of the sign -1 the factor goes to the arc outward.
        self.assertEqual(equations(([[1, -2, 3, -1, 2, -3]], [(1, -1), (2, 1), (3, 1)]), 7, 3)[0], [5, 6, 3])
        self.assertEqual(equations(HOPF, 5, 2), [[4, 1], [1, 4]])

    def test_one_arc_at_several_places(self):
        # At a curl all three are one arc: all is added up, factor + 1 - factor - 1.
        for sign in (1, -1):
            self.assertEqual(equations(([[1, -1]], [(1, sign)]), 7, 3), [[0]])
            self.assertEqual(equations(([[1], [-1]], [(1, sign)]), 7, 3), [[5, 2]])
        # Inward and over are one, then outward and over.
        self.assertEqual(equations(([[1, -1, -2], [2]], [(1, 1), (2, 1)]), 7, 3)[0], [1, 6, 0])
        self.assertEqual(equations(([[1, -1, -2], [2]], [(1, -1), (2, 1)]), 7, 3)[0], [4, 3, 0])
        self.assertEqual(equations(([[-1, 1, -2], [2]], [(1, 1), (2, 1)]), 7, 3)[0], [3, 4, 0])
        self.assertEqual(equations(([[-1, 1, -2], [2]], [(1, -1), (2, 1)]), 7, 3)[0], [6, 1, 0])

    def test_as_the_point_reads(self):
        for drawing, prime, factor in asked():
            told = equations(drawing, prime, factor)
            self.assertEqual(told, plain_equations(drawing, prime, factor))
            self.assert_whole(told)

    def test_without_crossings(self):
        for drawing in (EMPTY, ([[]], []), ([[], [], []], [])):
            self.assertEqual(equations(drawing, 5, 2), [])

    def test_own_lists(self):
        for drawing, prime, factor in itertools.islice(asked(), 0, None, 3):
            self.assert_own_lists(equations, drawing, prime, factor)

    def test_asked_anew(self):
        for function in FUNCTIONS:
            self.assert_asked_anew(function, (TREFOIL, 7, 3), (HOPF, 3, 2))
            self.assert_asked_anew(function, (TREFOIL, 3, -1), (TREFOIL, 5, -1))


class Keeps(PlaitTest):
    def test_by_scaled(self):
        # By primes up to 24 the straight colourings are those by the scaled table.
        for drawing in (EMPTY, ([[]], []), TREFOIL, HOPF, FIGURE_EIGHT, numbered(3, 2, 1), numbered(4, 1, 2)):
            count = arc_number(drawing)
            for prime, factor in itertools.product(SMALL_PRIMES, (1, 2, -1, 3, -4, 10 ** 59 + 9)):
                if factor % prime and prime ** count <= 2500:
                    found = colourings(drawing, scaled(prime, factor))
                    kept = [
                        list(colours) for colours in itertools.product(range(prime), repeat=count)
                        if keeps(drawing, prime, factor, list(colours))
                    ]
                    self.assertEqual(kept, found)

    def test_numbers_beyond_the_rests(self):
        source = random.Random(5)
        found = set()
        for drawing, prime, factor in asked():
            count = arc_number(drawing)
            frees, basis, ties = solved(drawing, prime, factor)
            for each in range(3):
                colours = [source.randrange(-BIG, BIG) for arc in range(count)]
                if each:
                    weights = [source.randrange(prime) for free in frees]
                    colours = combined(basis, weights, prime, count)
                    colours = [colour + prime * source.randrange(-(10 ** 50), 10 ** 50) for colour in colours]
                if each == 2 and count:
                    colours[source.randrange(count)] += 1
                expected = plain_keeps(drawing, prime, factor, colours)
                self.assertIs(keeps(drawing, prime, factor, colours), expected)
                found.add((each, expected))
        self.assertEqual(len(found), 5)

    def test_by_hand(self):
        for colours, expected in (
            ([0, 1, 2], True), ([3, -2, 5], True), ([0, 1, 1], False), ([-3, 4, -1], True), ([BIG] * 3, True),
            ([BIG, BIG, BIG - 1], False), ([0, 0, 3], True), ([0, 0, -3 * 10 ** 58], True),
        ):
            self.assertIs(keeps(TREFOIL, 3, 2, colours), expected)
        self.assertIs(keeps(EMPTY, 3, 2, []), True)

    def test_own_lists(self):
        for colours in ([0, 1, 2], [0, 1, 1], [BIG, -BIG, 7]):
            self.assert_own_lists(keeps, TREFOIL, 3, 2, colours)
        self.assert_asked_anew(keeps, (TREFOIL, 3, 2, [0, 1, 2]), (HOPF, 5, 2, [0, 1]))
        self.assert_asked_anew(keeps, (TREFOIL, 3, 2, [0, 1, 2]), (TREFOIL, 3, 2, [0, 1, 1]))


class Solved(PlaitTest):
    def assert_solved(self, drawing, prime, factor):
        """All that point 39 tells of frees, basis and ties."""
        told = solved(drawing, prime, factor)
        self.assertIsInstance(told, tuple)
        self.assert_whole(told)
        frees, basis, ties = told
        count, rows = arc_number(drawing), plain_equations(drawing, prime, factor)
        tied = [arc for arc, factors in ties]
        self.assertEqual(sorted(frees + tied), list(range(count)))
        self.assertEqual((frees, tied), (sorted(frees), sorted(tied)))
        for arc, factors in ties:
            self.assertEqual(len(factors), len(rows))
            self.assertTrue(all(0 <= each < prime for each in factors))
            found = combined(rows, factors, prime, count)
            self.assertEqual(found[:arc + 1], [0] * arc + [1])
            self.assertTrue(all(found[other] == 0 for other in tied if other != arc))
        self.assertEqual(len(basis), len(frees))
        for free, colours in zip(frees, basis):
            self.assertTrue(all(0 <= colour < prime for colour in colours))
            self.assertEqual(len(colours), count)
            self.assertEqual([colours[arc] for arc in frees], [int(arc == free) for arc in frees])
            self.assertTrue(plain_keeps(drawing, prime, factor, colours))
        # With a basis of straight colourings no arc that is told free can be tied, and ties show the others.
        self.assertEqual(straight_many(drawing, prime, factor), prime ** len(frees))

    def test_many_drawings(self):
        for drawing, prime, factor in asked():
            self.assert_solved(drawing, prime, factor)

    def test_well_known_ones(self):
        self.assertEqual(solved(TREFOIL, 3, -1), ([1, 2], [[2, 1, 0], [2, 0, 1]], [(0, [2, 0, 0])]))
        self.assertEqual(straight_many(TREFOIL, 3, -1), 9)
        self.assertEqual(straight_many(TREFOIL, 5, -1), 5)
        self.assertEqual(straight_many(FIGURE_EIGHT, 5, -1), 25)
        self.assertEqual(straight_many(HOPF, 2, 1), 4)
        # The trefoil is coloured where factor * factor - factor + 1 is nought.
        for prime in plain_primes(60):
            for factor in range(1, prime):
                expected = 2 if (factor * factor - factor + 1) % prime == 0 else 1
                self.assertEqual(len(solved(TREFOIL, prime, factor)[0]), expected)

    def test_free_and_tied_by_their_definition(self):
        for seed in range(60):
            drawing = numbered(seed % 5, 1 + seed % 3, seed)
            for prime, factor in ((2, 1), (3, 2), (3, 1), (5, 3)):
                rows = plain_equations(drawing, prime, factor)
                if prime ** len(rows) <= 700:
                    count = arc_number(drawing)
                    tied = plain_tied(rows, prime, count)
                    told = solved(drawing, prime, factor)
                    self.assertEqual(told[0], [arc for arc in range(count) if arc not in tied])
                    self.assertEqual([arc for arc, factors in told[2]], tied)
                    self.assert_solved(drawing, prime, factor)

    def test_without_crossings(self):
        self.assertEqual(solved(EMPTY, 7, 2), ([], [], []))
        self.assertEqual(straight_many(EMPTY, 7, 2), 1)
        self.assertEqual(solved(([[]], []), 7, 2), ([0], [[1]], []))
        self.assertEqual(solved(([[], [], []], []), 2, 1), ([0, 1, 2], [[1, 0, 0], [0, 1, 0], [0, 0, 1]], []))
        self.assertEqual(straight_many(([[]] * 12, []), LAST_PRIME, 2), LAST_PRIME ** 12)

    def test_equations_that_are_sums_of_others_or_nought(self):
        # A curl's equation is nought; the trefoil's third one is a sum of the others; by the factor 1 all are plain.
        self.assertEqual(solved(([[1, -1]], [(1, 1)]), 7, 3), ([0], [[1]], []))
        for drawing in (TREFOIL, FIGURE_EIGHT, led(TREFOIL, [("curl", 0, 2, 9, "under", -1)])):
            for prime, factor in ((2, 1), (3, 2), (7, 3), (LAST_PRIME, 5)):
                self.assert_solved(drawing, prime, factor)
        laid = ([[1, 2], [-1, -2]], [(1, 1), (2, -1)])
        self.assertEqual(equations(laid, 5, 2), [[4, 2, 4], [4, 2, 4]])
        self.assertEqual(solved(laid, 5, 2)[0], [1, 2])
        self.assert_solved(laid, 5, 2)

    def test_each_straight_colouring_is_one_sum_of_the_basis(self):
        cases = [(TREFOIL, 3, -1), (FIGURE_EIGHT, 5, -1), (HOPF, 7, 1), (numbered(4, 2, 3), 3, 2)]
        for drawing, prime, factor in cases:
            frees, basis, ties = solved(drawing, prime, factor)
            count = arc_number(drawing)
            found = []
            for colours in itertools.product(range(prime), repeat=len(frees)):
                found.append(combined(basis, colours, prime, count))
            self.assertEqual(sorted(found), colourings(drawing, scaled(prime, factor)))

    def test_the_fullest_drawings(self):
        for seed, walks in ((1, 1), (2, 12), (3, 5)):
            drawing = numbered(40, walks, seed)
            self.assert_solved(drawing, LAST_PRIME, -1)
            self.assert_solved(drawing, 2, 1)

    def test_own_lists(self):
        for drawing, prime, factor in itertools.islice(asked(), 0, None, 3):
            self.assert_own_lists(solved, drawing, prime, factor)
        for drawing in (EMPTY, ([[], []], []), FAR):
            self.assert_own_lists(solved, drawing, 3, 2)


class StraightMany(PlaitTest):
    def test_as_many_as_by_scaled(self):
        for drawing in (EMPTY, ([[]], []), TREFOIL, HOPF, FIGURE_EIGHT, FAR, numbered(3, 2, 1), numbered(4, 3, 7)):
            for prime, factor in itertools.product(SMALL_PRIMES, (1, 2, -1, 3, -8, BIG)):
                if factor % prime and prime ** arc_number(drawing) <= 65536:
                    self.assertEqual(straight_many(drawing, prime, factor), many(drawing, scaled(prime, factor)))

    def test_no_legal_move_changes_it(self):
        for seed in range(20):
            drawing = [TREFOIL, HOPF, FIGURE_EIGHT, ([[], []], []), numbered(5, 3, seed)][seed % 5]
            there = led(drawing, chain_from(drawing, 40, seed, 30))
            for prime, factor in ((3, -1), (2, 1), (5, 2), (7, 3), (LAST_PRIME, 17)):
                self.assertEqual(straight_many(there, prime, factor), straight_many(drawing, prime, factor))

    def test_numbers_of_many_figures(self):
        told = straight_many(([[] for walk in range(12)], []), LAST_PRIME, 1)
        self.assertEqual(told, LAST_PRIME ** 12)
        self.assert_whole(told)


class Refusals(PlaitTest):
    def assert_each(self, refusal, drawing, prime, factor):
        for function in FUNCTIONS:
            self.assert_refused(refusal, function, drawing, prime, factor)
        self.assert_refused(refusal, keeps, drawing, prime, factor, [0] * arc_number(drawing))

    def test_no_prime(self):
        for prime in NO_PRIMES:
            for drawing in (TREFOIL, EMPTY):
                # Ahead of NoUnit.
                for factor in (1, 0, prime, -prime, 7):
                    self.assert_each(NoPrime, drawing, prime, factor)

    def test_each_number_up_to_some_hundred(self):
        primes = plain_primes(600)
        for number in range(-5, 600):
            if number in primes:
                self.assertEqual(straight_many(([[]], []), number, 1), number)
            else:
                self.assert_refused(NoPrime, straight_many, ([[]], []), number, 1)

    def test_primes_and_squares_near_the_bound(self):
        for prime in (LAST_PRIME, 99989, 99971, 317, 313, 311):
            self.assertEqual(straight_many(([[]], []), prime, 1), prime)
        for number in (99993, 99997, 99995, 313 * 311, 313 * 313, 99977, 99973):
            self.assert_refused(NoPrime, straight_many, ([[]], []), number, 1)

    def test_no_unit(self):
        for prime in (2, 3, 7, LAST_PRIME):
            for factor in (0, prime, -prime, 12 * prime, prime * 10 ** 54, -prime * 10 ** 54):
                self.assert_each(NoUnit, TREFOIL, prime, factor)
                self.assert_each(NoUnit, EMPTY, prime, factor)
                straight_many(TREFOIL, prime, factor + 1)


if __name__ == "__main__":
    unittest.main()
