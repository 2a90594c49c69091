"""Point 34, and 2, 3, 4, 5 for plait/chains.py."""

import unittest

from plait.carrying import carried
from plait.chains import led, led_along, led_back
from plait.colours import colourings
from plait.errors import NoChain, NoFit
from plait.moves import done, undone
from tests.helpers import (
    BIG, FAR, HOPF, TREFOIL, PlaitTest, chain_from, formula_table, many_drawings, numbered, one_column, plain_done,
)

TURNS = formula_table(3, -1)
STRAIGHT = formula_table(5, 2)
# Each move but the first is legal only behind the one ahead of it.
GROWING = [
    ("curl", 0, 6, 4, "over", 1), ("lay", 0, 8, 0, 0, 5, 6, True, -1), ("curl", 0, 12, 8, "under", 1),
    ("uncurl", 0, 12), ("unlay", 0, 10, 0, 0), ("turn", 0, 6), ("uncurl", 0, 0),
]


def small_chains():
    """Drawings with a chain of legal moves from each, of all six forms."""
    for seed in range(60):
        drawing = [TREFOIL, HOPF, ([[]], []), ([[], []], []), numbered(2, 2, seed), numbered(3, 1, seed)][seed % 6]
        yield drawing, chain_from(drawing, seed % 13, seed, 6)


def long_chains():
    for seed in range(12):
        drawing = numbered(seed, 1 + seed % 12, seed)
        yield drawing, chain_from(drawing, 90, seed, 38)


def spoilt(moves, at, wrong=("uncurl", BIG, 0)):
    return moves[:at] + [wrong] + moves[at:]


class ChainsTest(PlaitTest):
    def assert_no_chain(self, at, drawing, moves, wrong=()):
        """Refused at this place by all three; by led_along with each of the wrong lists of colours, too."""
        refusals = [self.assert_refused(NoChain, function, drawing, moves) for function in (led, led_back)]
        for colours in [colourings(drawing, [[0]])[0]] + list(wrong):
            refusals.append(self.assert_refused(NoChain, led_along, drawing, moves, [[0]], colours))
        for refusal in refusals:
            self.assertEqual(refusal.at, at)
            self.assert_whole(refusal.at)


class Led(ChainsTest):
    def test_the_chain_without_moves(self):
        for drawing in many_drawings():
            self.assertEqual(led(drawing, []), drawing)
            self.assertEqual(led_back(drawing, []), [])

    def test_one_move(self):
        for drawing, moves in small_chains():
            for move in moves[:1]:
                self.assertEqual(led(drawing, [move]), done(drawing, move))
                self.assertEqual(led_back(drawing, [move]), [undone(drawing, move)])

    def test_move_by_move(self):
        words = set()
        for drawing, moves in list(small_chains()) + list(long_chains()):
            expected = drawing
            for move in moves:
                expected = plain_done(expected, move)
                words.add(move[0])
            self.assertEqual(led(drawing, moves), expected)
        self.assertEqual(len(words), 6)

    def test_legal_only_behind_the_one_ahead(self):
        self.assertEqual(led(TREFOIL, GROWING), TREFOIL)
        for at in range(1, 5):
            self.assert_no_chain(0, TREFOIL, GROWING[at:])

    def test_by_hand(self):
        expected = [
            [1, -2, 3, -1, 2, -3, 4, -4], [-6, -5, 1, -2, 3, -1, 2, -3, 4, -4, 5, 6],
            [-6, -5, 1, -2, 3, -1, 2, -3, 4, -4, 5, 6, -8, 8], [-6, -5, 1, -2, 3, -1, 2, -3, 4, -4, 5, 6],
            [1, -2, 3, -1, 2, -3, 4, -4], [4, -4, 1, -2, 3, -1, 2, -3], [1, -2, 3, -1, 2, -3],
        ]
        for count, walk in enumerate(expected, start=1):
            self.assertEqual(led(TREFOIL, GROWING[:count])[0], [walk])
        self.assertEqual(led(TREFOIL, GROWING[:3])[1], [(1, 1), (2, 1), (3, 1), (4, 1), (5, -1), (6, 1), (8, 1)])

    def test_the_drawing_without_walks(self):
        self.assertEqual(led(([], []), []), ([], []))
        self.assert_no_chain(0, ([], []), [("turn", 0, 0)])

    def test_own_lists(self):
        for drawing in many_drawings()[:30]:
            self.assert_own_lists(led, drawing, [])
        for drawing, moves in small_chains():
            self.assert_own_lists(led, drawing, moves)

    def test_asked_anew(self):
        first, second = (TREFOIL, GROWING), (HOPF, [("turn", 1, 1), ("curl", 0, 0, 9, "over", 1)])
        for function in (led, led_back):
            self.assert_asked_anew(function, first, second)
            self.assert_asked_anew(function, first, (TREFOIL, []))


class NoChains(ChainsTest):
    def test_the_first_a_middle_and_the_last(self):
        for drawing, moves in small_chains():
            for at in sorted({0, len(moves) // 2, len(moves)}):
                self.assert_no_chain(at, drawing, spoilt(moves, at))

    def test_the_first_of_several(self):
        for drawing, moves in small_chains():
            at = len(moves) // 2
            self.assert_no_chain(at, drawing, spoilt(spoilt(moves, at), len(moves) + 1))

    def test_of_ninety_moves_the_last(self):
        for drawing, moves in long_chains():
            self.assert_no_chain(89, drawing, moves[:89] + [("turn", len(drawing[0]), 0)])
            self.assertEqual(len(led_back(drawing, moves)), 90)

    def test_a_move_that_was_legal_at_first(self):
        # It is legal in the drawing that is handed in, but not when its turn comes.
        drawing = ([[1, -1]], [(1, 1)])
        self.assertEqual(led(drawing, [("uncurl", 0, 0)]), ([[]], []))
        self.assert_no_chain(1, drawing, [("uncurl", 0, 0), ("uncurl", 0, 0)])
        self.assert_no_chain(1, drawing, [("curl", 0, 1, 2, "over", 1), ("curl", 0, 0, 2, "over", 1)])
        self.assert_no_chain(2, drawing, [("turn", 0, 0), ("turn", 0, 1), ("uncurl", 0, 1)])

    def test_what_was_refused_is_taken_as_soon_as_it_is_good(self):
        moves = spoilt(GROWING, 3)
        self.assert_no_chain(3, TREFOIL, moves)
        moves.pop(3)
        self.assertEqual(led(TREFOIL, moves), TREFOIL)


class LedBack(ChainsTest):
    def test_to_the_very_drawing(self):
        for drawing, moves in list(small_chains()) + list(long_chains()):
            there = led(drawing, moves)
            back = led_back(drawing, moves)
            self.assertEqual(len(back), len(moves))
            self.assertEqual(led(there, back), drawing)

    def test_as_undone_tells_them(self):
        for drawing, moves in small_chains():
            here, expected = drawing, []
            for move in moves:
                expected.insert(0, undone(here, move))
                here = plain_done(here, move)
            self.assertEqual(led_back(drawing, moves), expected)

    def test_by_hand(self):
        self.assertEqual(led_back(TREFOIL, GROWING[:3] + [("turn", 0, 5)]), [
            ("turn", 0, -5), ("uncurl", 0, 12), ("unlay", 0, 10, 0, 0), ("uncurl", 0, 6),
        ])

    def test_own_lists(self):
        for drawing, moves in small_chains():
            self.assert_own_lists(led_back, drawing, moves)
            self.assert_own_lists(led_back, drawing, [])


class LedAlong(ChainsTest):
    def test_carried_move_by_move(self):
        for drawing, moves in small_chains():
            for table in (TURNS, STRAIGHT, one_column(3, 1, [2, 1, 0])):
                for colours in colourings(drawing, table)[:12]:
                    here, expected = drawing, colours
                    for move in moves:
                        expected = carried(here, move, table, expected)
                        here = done(here, move)
                    self.assertEqual(led_along(drawing, moves, table, colours), expected)

    def test_one_to_one_and_back(self):
        for drawing, moves in small_chains():
            there, back = led(drawing, moves), led_back(drawing, moves)
            found = colourings(drawing, TURNS)
            told = [led_along(drawing, moves, TURNS, colours) for colours in found]
            self.assertEqual(sorted(told), colourings(there, TURNS))
            self.assertEqual([led_along(there, back, TURNS, colours) for colours in told], found)

    def test_the_chain_without_moves(self):
        for drawing in (TREFOIL, HOPF, ([], []), ([[]], [])):
            for colours in colourings(drawing, TURNS):
                self.assertEqual(led_along(drawing, [], TURNS, colours), colours)
                self.assert_own_lists(led_along, drawing, [], TURNS, colours)

    def test_no_fit(self):
        wrong = [[], [0, 1], [0, 1, 2, 0], [0] * 90, [0, 0, 1], [3, 3, 3], [-1, -1, -1], [0, 1, BIG], [0, 1, -1]]
        for colours in wrong:
            for moves in ([], GROWING, GROWING[:1], [("turn", 0, 1)] * 90):
                self.assert_refused(NoFit, led_along, TREFOIL, moves, TURNS, colours)
                led_along(TREFOIL, moves, TURNS, [0, 1, 2])
        self.assert_refused(NoFit, led_along, ([], []), [], TURNS, [0])
        self.assertEqual(led_along(([], []), [], TURNS, []), [])

    def test_no_chain_goes_ahead_of_no_fit(self):
        for at in (0, 3, 7):
            self.assert_no_chain(at, TREFOIL, spoilt(GROWING, at), [[], [0], [0, 1, 2], [5, 5, 5], [BIG] * 3, [0] * 90])

    def test_long_ones(self):
        for drawing, moves in long_chains():
            count = len(colourings(drawing, [[0]])[0])
            told = led_along(drawing, moves, TURNS, [2] * count)
            self.assertEqual(set(told), {2})
            self.assertEqual(led_along(led(drawing, moves), led_back(drawing, moves), TURNS, told), [2] * count)

    def test_own_lists(self):
        for drawing, moves in small_chains():
            self.assert_own_lists(led_along, drawing, moves, STRAIGHT, colourings(drawing, STRAIGHT)[-1])

    def test_asked_anew(self):
        first = (TREFOIL, GROWING, TURNS, [0, 1, 2])
        second = (HOPF, [("turn", 1, 1)], formula_table(4, -1), [0, 2])
        self.assert_asked_anew(led_along, first, second)

    def test_names_of_many_figures(self):
        moves = [("turn", 2, -BIG), ("curl", 1, 0, BIG - 1, "over", -1), ("lay", 1, 1, 0, 2, 1, 2, False, 1)]
        there = led(FAR, moves)
        self.assertEqual(there[0][1], [BIG - 1, 1, 2, 1 - BIG])
        self.assertEqual(led(there, led_back(FAR, moves)), FAR)


if __name__ == "__main__":
    unittest.main()
