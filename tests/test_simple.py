"""Point 35, and 2, 3, 4, 5 for plait/simple.py."""

import copy
import itertools
import unittest

from plait.chains import led
from plait.colours import many
from plait.drawings import fault
from plait.moves import legal
from plait.simple import simpler
from tests.helpers import (
    BIG, FAR, HOPF, TREFOIL, PlaitTest, chain_from, formula_table, made, many_drawings, numbered, one_column,
    plain_done, plain_legal,
)

FIGURE_EIGHT = ([[1, -2, 3, -1, 4, -3, 2, -4]], [(1, 1), (2, -1), (3, 1), (4, -1)])


def round_pairs(drawing):
    """The pairs of point 35 in their order: the walk, the place, the two passages."""
    for walk, passages in enumerate(drawing[0]):
        for place, first in enumerate(passages):
            if len(passages) >= 2:
                yield walk, place, first, passages[(place + 1) % len(passages)]


def wanted_pairs(drawing):
    """The one pair that is uncurled next, or the two that are unlaid, None where it ends."""
    signs = dict(drawing[1])
    for walk, place, first, second in round_pairs(drawing):
        if first + second == 0:
            return [(walk, place)]
    for over_walk, over_place, one, two in round_pairs(drawing):
        for under_walk, under_place, three, four in round_pairs(drawing):
            if one > 0 and two > 0 and sorted((three, four)) == sorted((-one, -two)) and signs[one] != signs[two]:
                return [(over_walk, over_place), (under_walk, under_place)]
    return None


def plain_simpler(drawing):
    """Point 35 word by word: each pair is known by its first passage, wherever a turn brings it."""
    left, told = copy.deepcopy(drawing), []
    while wanted_pairs(left) is not None:
        spots = wanted_pairs(left)
        firsts = [(walk, left[0][walk][place]) for walk, place in spots]
        for walk, place in spots:
            if place == len(left[0][walk]) - 1:
                told.append(("turn", walk, place))
                left = plain_done(left, told[-1])
        places = [part for walk, first in firsts for part in (walk, left[0][walk].index(first))]
        told.append(("uncurl" if len(spots) == 1 else "unlay", *places))
        assert plain_legal(left, told[-1])
        left = plain_done(left, told[-1])
    return left, told


def dealt(walks, signs):
    return (walks, [(name, sign) for name, sign in zip(sorted({abs(p) for walk in walks for p in walk}), signs)])


class Simpler(PlaitTest):
    def assert_simpler(self, drawing, left, moves):
        self.assertIsNone(fault(drawing))
        self.assertEqual(simpler(drawing), (left, moves))
        self.assertEqual(plain_simpler(drawing), (left, moves))
        self.assertEqual(led(drawing, moves), left)

    def test_nothing_to_take_down(self):
        for drawing in (([], []), ([[]], []), ([[], [], []], []), TREFOIL, HOPF, FIGURE_EIGHT, ([[1], [-1]], [(1, 1)])):
            self.assert_simpler(drawing, drawing, [])
        # Two pairs of the same signs, and pairs that are not of the same crossings.
        for drawing in (dealt([[1, 2], [-1, -2]], (1, 1)), dealt([[1, 2], [-1, -3], [3, -2]], (1, -1, 1))):
            self.assert_simpler(drawing, drawing, [])

    def test_curls(self):
        for walk in ([1, -1], [-1, 1]):
            self.assert_simpler(dealt([walk], (1,)), ([[]], []), [("uncurl", 0, 0)])
        self.assert_simpler(
            dealt([[2, -2, 1], [-1, 3, -3]], (1, 1, -1)), ([[1], [-1]], [(1, 1)]), [("uncurl", 0, 0), ("uncurl", 1, 1)],
        )

    def test_one_in_another(self):
        self.assert_simpler(
            dealt([[1, -2, 3, -3, 2, -1]], (1, 1, -1)), ([[]], []),
            [("uncurl", 0, 2), ("uncurl", 0, 1), ("uncurl", 0, 0)],
        )
        # The first one by its place goes first, and one that is free behind it is ahead of a later one.
        self.assert_simpler(
            dealt([[1, 2, -2, -1, 3, -3, 4], [-4]], (1, 1, 1, 1)), ([[4], [-4]], [(4, 1)]),
            [("uncurl", 0, 1), ("uncurl", 0, 0), ("uncurl", 0, 0)],
        )

    def test_a_curl_that_goes_round(self):
        self.assert_simpler(
            dealt([[-1, 2, 1], [-2]], (1, -1)), ([[2], [-2]], [(2, -1)]), [("turn", 0, 2), ("uncurl", 0, 0)],
        )
        # Within the walk a pair goes ahead of the one that goes round.
        self.assert_simpler(
            dealt([[-1, 2, -2, 3, 1], [-3]], (1, -1, 1)), ([[3], [-3]], [(3, 1)]),
            [("uncurl", 0, 1), ("turn", 0, 2), ("uncurl", 0, 0)],
        )
        # A pair that goes round in an earlier walk goes ahead of one in a later walk.
        self.assert_simpler(
            dealt([[-1, 2, 1], [-2, 3, -3]], (1, 1, 1)), ([[2], [-2]], [(2, 1)]),
            [("turn", 0, 2), ("uncurl", 0, 0), ("uncurl", 1, 1)],
        )

    def test_two_passages_have_their_first_pair_first(self):
        # Both pairs of a walk of two are opposite: no turn is told.
        self.assert_simpler(dealt([[], [-5, 5]], (-1,)), ([[], []], []), [("uncurl", 1, 0)])

    def test_what_was_turned_stays_so(self):
        drawing = dealt([[-4, 1, -2, 3, -1, 2, -3, 4]], (1, 1, 1, -1))
        self.assert_simpler(drawing, TREFOIL, [("turn", 0, 7), ("uncurl", 0, 0)])
        drawing = dealt([[1, 2, 5, -5, 3, 4, -1], [-2, -3, -4]], (1, 1, 1, 1, 1))
        self.assert_simpler(
            drawing, ([[2, 3, 4], [-2, -3, -4]], [(2, 1), (3, 1), (4, 1)]),
            [("uncurl", 0, 2), ("turn", 0, 4), ("uncurl", 0, 0)],
        )

    def test_unlay_of_two_walks(self):
        signs = [(1, 1), (2, -1), (3, 1), (4, 1), (5, 1)]
        overs, unders = ([3, 1, 2, 4, 5], [2, 3, 4, 5, 1]), ([-3, -5, -2, -1, -4], [-1, -3, -5, -4, -2])
        # Neither going round, either one, and both: the over pair's turn goes first wherever its walk stands.
        cases = [
            (0, 0, [("unlay", 0, 1, 1, 2)], [("unlay", 1, 1, 0, 2)]),
            (0, 1, [("turn", 1, 4), ("unlay", 0, 1, 1, 0)], [("turn", 0, 4), ("unlay", 1, 1, 0, 0)]),
            (1, 0, [("turn", 0, 4), ("unlay", 0, 0, 1, 2)], [("turn", 1, 4), ("unlay", 1, 0, 0, 2)]),
            (
                1, 1, [("turn", 0, 4), ("turn", 1, 4), ("unlay", 0, 0, 1, 0)],
                [("turn", 1, 4), ("turn", 0, 4), ("unlay", 1, 0, 0, 0)],
            ),
        ]
        for over, under, ahead, behind in cases:
            over, under = overs[over], unders[under]
            self.assert_simpler(([over, under], signs), ([[3, 4, 5], [-3, -5, -4]], signs[2:]), ahead)
            self.assert_simpler(([under, over], signs), ([[-3, -5, -4], [3, 4, 5]], signs[2:]), behind)

    def test_unlay_of_one_walk(self):
        signs = [(1, 1), (2, -1), (3, 1), (4, 1), (5, 1)]
        left = [[3, 4], [5, -3, -5, -4]]
        # No curls come about as 3, 4 and 5 stay apart.
        for walk, moves in (
            ([1, 2, 5, -1, -2, -3, -5, -4], [("unlay", 1, 0, 1, 3)]),
            ([5, -2, -1, -3, 1, 2, -5, -4], [("unlay", 1, 4, 1, 1)]),
            ([2, 5, -1, -2, -3, -5, -4, 1], [("turn", 1, 7), ("unlay", 1, 0, 1, 3)]),
            ([-2, 5, -3, 2, 1, -5, -4, -1], [("turn", 1, 7), ("unlay", 1, 4, 1, 0)]),
        ):
            self.assert_simpler(([[3, 4], walk], signs), (left, signs[2:]), moves)

    def test_walks_of_two_passages(self):
        for over, under in itertools.product(([1, 2], [2, 1]), ([-1, -2], [-2, -1])):
            self.assert_simpler(dealt([over, under], (1, -1)), ([[], []], []), [("unlay", 0, 0, 1, 0)])
            self.assert_simpler(dealt([under, over], (-1, 1)), ([[], []], []), [("unlay", 1, 0, 0, 0)])
        # A walk of two with a pair that goes round only in the other walk.
        self.assert_simpler(
            dealt([[1, 2], [-1, 3, -2], [-3]], (1, -1, 1)), ([[], [3], [-3]], [(3, 1)]),
            [("turn", 1, 2), ("unlay", 0, 0, 1, 0)],
        )

    def test_the_first_two_pairs_by_over_and_under(self):
        # Over walk, over place, under walk, under place: the over pair tells first, not the under pair.
        drawing = dealt([[3, 4, 7, 1, 2, 8], [-1, -2, -7, -3, -4, -8]], (1, -1, 1, -1, 1, 1))
        told = simpler(drawing)
        self.assertEqual(told[1], [("unlay", 0, 0, 1, 3), ("unlay", 0, 1, 1, 0)])
        self.assertEqual(told, plain_simpler(drawing))
        # A curl, wherever it stands, goes ahead of all unlaying.
        drawing = dealt([[1, 2, 7], [-1, -2, -7], [9, -9]], (1, -1, 1, 1))
        self.assertEqual(simpler(drawing)[1], [("uncurl", 2, 0), ("unlay", 0, 0, 1, 0)])

    def test_what_becomes_legal_only_behind_another_move(self):
        # Behind the unlay the walk has a curl, and behind that one there are two pairs again.
        self.assert_simpler(
            dealt([[1, 2, 3, -1, -2, -3]], (1, -1, 1)), ([[]], []), [("unlay", 0, 0, 0, 3), ("uncurl", 0, 0)],
        )
        self.assert_simpler(
            dealt([[1, 3, -3, 2], [-2, 4, -4, -1]], (-1, 1, 1, 1)), ([[], []], []),
            [("uncurl", 0, 1), ("uncurl", 1, 1), ("unlay", 0, 0, 1, 0)],
        )
        # It begins anew: the curl that an unlay leaves goes ahead of the next unlay.
        drawing = dealt([[5, 1, 2, -5, 3, 4], [-1, -2], [-3, -4]], (1, -1, 1, -1, 1))
        self.assert_simpler(
            drawing, ([[], [], []], []), [("unlay", 0, 1, 1, 0), ("uncurl", 0, 0), ("unlay", 0, 0, 2, 0)],
        )

    def test_as_the_point_reads(self):
        counted = {}
        drawings = many_drawings()
        drawings += [numbered(count, walks, seed) for count in range(2, 7) for walks in (1, 2, 3) for seed in range(60)]
        for drawing in drawings:
            told = simpler(drawing)
            self.assertEqual(told, plain_simpler(drawing))
            for move in told[1]:
                counted[move[0]] = counted.get(move[0], 0) + 1
        self.assertEqual(sorted(counted), ["turn", "uncurl", "unlay"])
        self.assertGreater(min(counted.values()), 80)

    def test_drawings_grown_by_moves(self):
        for seed in range(25):
            start = [([[]], []), ([[], []], []), TREFOIL, HOPF, FIGURE_EIGHT][seed % 5]
            drawing = led(start, chain_from(start, 30, seed, 30))
            told = simpler(drawing)
            self.assertEqual(told, plain_simpler(drawing))
            left = drawing
            for move in told[1]:
                self.assertTrue(legal(left, move))
                left = led(left, [move])
            self.assertEqual(left, told[0])
            self.assertEqual(simpler(left), (left, []))
            for table in (formula_table(3, -1), one_column(3, 0, [0, 2, 1])):
                if 3 ** max(len(left[1]) + len(left[0]), 1) <= 65536:
                    self.assertEqual(many(left, table), many(start, table))

    def test_forty_crossings(self):
        names = list(range(1, 41))
        nested = [*names, *[-name for name in reversed(names)]]
        told = simpler((([nested], [(name, 1) for name in names])))
        self.assertEqual(told, (([[]], []), [("uncurl", 0, place) for place in range(39, -1, -1)]))
        pairs = ([names, [-name for name in names]], [(name, 1 if name % 2 else -1) for name in names])
        self.assertEqual(simpler(pairs), (([[], []], []), [("unlay", 0, 0, 1, 0)] * 20))
        drawing = made(names, 2, 3)
        self.assertEqual(simpler(drawing), plain_simpler(drawing))

    def test_names_of_many_figures(self):
        drawing = ([[BIG, 10 ** 30], [], [-BIG, 7, -7, -(10 ** 30)]], [(7, 1), (10 ** 30, 1), (BIG, -1)])
        self.assert_simpler(drawing, ([[], [], []], []), [("uncurl", 2, 1), ("unlay", 0, 0, 2, 0)])
        self.assertEqual(simpler(FAR), plain_simpler(FAR))

    def test_own_lists(self):
        drawings = [TREFOIL, HOPF, FAR, ([], []), ([[]], []), dealt([[1, 2], [-1, 3, -2], [-3]], (1, -1, 1))]
        for drawing in drawings + [numbered(4, 2, seed) for seed in range(30)]:
            self.assert_own_lists(simpler, drawing)
            self.assert_whole(simpler(drawing))

    def test_asked_anew(self):
        self.assert_asked_anew(simpler, (TREFOIL,), (dealt([[1, -2, 2, -1]], (1, 1)),))
        self.assert_asked_anew(simpler, (dealt([[1, -2, 2, -1]], (1, 1)),), (TREFOIL,))


if __name__ == "__main__":
    unittest.main()
