"""Points 29, 30, 31, 32, and 2, 3, 4 for plait/moves.py."""

import itertools
import random
import unittest

from plait.drawings import fault
from plait.errors import NoMove
from plait.moves import done, legal, undone
from tests.helpers import (
    BIG, FAR, HOPF, TREFOIL, PlaitTest, all_passings, legal_moves, made, many_drawings, numbered, passing, plain_done,
    plain_legal, tried_moves,
)

EMPTY = ([], [])
RING = ([[]], [])
CURL = ([[1, -1]], [(1, 1)])
ONE_EACH = ([[1], [-1]], [(1, -1)])
# Two pairs in one walk that can be unlaid, in two walks, and none in either.
LAID = ([[1, 2, 3, -3, -1, -2]], [(1, 1), (2, -1), (3, 1)])
LAID_APART = ([[-1, -2, 3], [-3, 2, 1]], [(1, -1), (2, 1), (3, 1)])


def tiny_drawings():
    told = [EMPTY, RING, ([[], []], []), CURL, ([[-1, 1]], [(1, -1)]), ONE_EACH, HOPF, LAID, LAID_APART]
    return told + [numbered(seed % 4, 1 + seed % 3, seed) for seed in range(30)]


def of_crossings(count):
    """A drawing of so many crossings, 1 and up, with a walk of its own for a curl and for two laid pairs."""
    walks, signs = numbered(count - 3, 2, count)
    last = count - 2
    walks = [[last, -last], [last + 1, last + 2, -last - 1, -last - 2], []] + walks
    return (walks, signs + [(last, 1), (last + 1, 1), (last + 2, -1)])


class MovesTest(PlaitTest):
    def assert_legal(self, drawing, move, left=None):
        self.assertIs(legal(drawing, move), True, (drawing, move))
        told = done(drawing, move)
        if left is not None:
            self.assertEqual(told, left, (drawing, move))
        self.assertIsNone(fault(told))
        back = undone(drawing, move)
        self.assertIs(legal(told, back), True, (drawing, move, back))
        self.assertEqual(done(told, back), drawing, (drawing, move, back))

    def assert_not_legal(self, drawing, move):
        self.assertIs(legal(drawing, move), False, (drawing, move))
        self.assert_refused(NoMove, done, drawing, move)
        self.assert_refused(NoMove, undone, drawing, move)


class All(MovesTest):
    def test_legal_and_done_as_the_point_reads(self):
        counted = {}
        for drawing in tiny_drawings():
            for move in tried_moves(drawing, 1):
                expected = plain_legal(drawing, move)
                self.assertIs(legal(drawing, move), expected, (drawing, move))
                if expected:
                    self.assert_legal(drawing, move, plain_done(drawing, move))
                    counted[move[0]] = counted.get(move[0], 0) + 1
        self.assertEqual(sorted(counted), ["curl", "lay", "pass", "turn", "uncurl", "unlay"])

    def test_bigger_drawings(self):
        for at, drawing in enumerate(many_drawings()):
            for move in random.Random(at).choices(list(itertools.islice(tried_moves(drawing), 3000)) or [None], k=40):
                if move is not None:
                    expected = plain_legal(drawing, move)
                    self.assertIs(legal(drawing, move), expected)
                    if expected:
                        self.assert_legal(drawing, move, plain_done(drawing, move))
                    else:
                        self.assert_not_legal(drawing, move)

    def test_what_is_not_legal_is_refused(self):
        for drawing in tiny_drawings()[:14]:
            for move in itertools.islice(tried_moves(drawing, 1), 0, None, 5):
                if not plain_legal(drawing, move):
                    self.assert_not_legal(drawing, move)

    def test_the_drawing_without_walks_has_no_move(self):
        for move in tried_moves(EMPTY, 2):
            self.assert_not_legal(EMPTY, move)

    def test_walks_and_places_of_many_figures(self):
        moves = [
            ("turn", 0, 1), ("curl", 0, 0, 9, "over", 1), ("uncurl", 0, 2), ("lay", 0, 0, 0, 2, 8, 9, False, 1),
            ("unlay", 0, 0, 0, 4),
        ]
        drawing = ([[1, 2, 3, -3, -1, -2]], [(1, 1), (2, -1), (3, 1)])
        for move in moves:
            self.assert_legal(drawing, move)
            places = [1] if move[0] == "turn" else [1, 2] if move[0] in ("curl", "uncurl") else [1, 2, 3, 4]
            for at, far in itertools.product(places, (BIG, -BIG, 9, -1, -2, -6)):
                self.assert_not_legal(drawing, move[:at] + (far,) + move[at + 1:])

    def test_crossings_of_many_figures(self):
        self.assert_legal(FAR, ("curl", 1, 0, BIG - 1, "under", 1), (
            [[BIG, -7], [1 - BIG, BIG - 1], FAR[0][2]], [(7, -1), (10 ** 30, 1), (BIG - 1, 1), (BIG, -1)],
        ))
        self.assert_legal(FAR, ("lay", 0, 1, 2, 4, 8, 10 ** 59, True, -1), (
            [[BIG, 8, 10 ** 59, -7], [], [-BIG, 10 ** 30, 7, -(10 ** 30), -(10 ** 59), -8]],
            [(7, -1), (8, -1), (10 ** 30, 1), (10 ** 59, 1), (BIG, -1)],
        ))
        self.assert_not_legal(FAR, ("curl", 1, 0, BIG, "under", 1))
        self.assert_not_legal(FAR, ("lay", 0, 0, 0, 0, BIG - 1, 10 ** 30, False, 1))

    def test_own_lists(self):
        for drawing in tiny_drawings():
            moves = legal_moves(drawing)
            for move in random.Random(1).sample(moves, min(25, len(moves))):
                self.assert_own_lists(done, drawing, move)
                self.assert_own_lists(undone, drawing, move)
                self.assert_own_lists(legal, drawing, move)
        for drawing, move, expected in itertools.islice(all_passings(), 0, None, 5):
            self.assert_own_lists(legal, drawing, move)
            if expected:
                self.assert_own_lists(done, drawing, move)

    def test_asked_anew(self):
        first, second = (TREFOIL, ("turn", 0, 1)), (([[1, -1]], [(1, -1)]), ("uncurl", 0, 0))
        for function in (legal, done, undone):
            self.assert_asked_anew(function, first, second)
            self.assert_asked_anew(function, (LAID, ("unlay", 0, 0, 0, 4)), (HOPF, ("curl", 1, 2, 7, "over", 1)))

    def test_what_was_refused_is_taken_as_soon_as_it_is_good(self):
        walks, signs = [[1, 2, -1, -2]], [(1, 1), (2, 1)]
        move = ("unlay", 0, 0, 0, 2)
        self.assert_not_legal((walks, signs), move)
        signs[1] = (2, -1)
        self.assertEqual(done((walks, signs), move), RING)
        self.assertEqual((walks, signs), ([[1, 2, -1, -2]], [(1, 1), (2, -1)]))

    def test_whole_numbers_and_tuples(self):
        for drawing in tiny_drawings():
            for move in legal_moves(drawing)[::7]:
                self.assert_whole(done(drawing, move))
                back = undone(drawing, move)
                self.assertIsInstance(back, tuple)
                self.assert_whole(back[:7] + back[8:] if back[0] == "lay" else back)
                self.assertIs(fault(done(drawing, move)), None)


class Turn(MovesTest):
    def test_walks(self):
        for walk in range(-2, 5):
            move = ("turn", walk, 1)
            if walk in (0, 1, 2):
                self.assert_legal(FAR, move)
            else:
                self.assert_not_legal(FAR, move)
        self.assert_not_legal(TREFOIL, ("turn", BIG, 0))
        self.assert_not_legal(TREFOIL, ("turn", -1, 0))
        self.assert_not_legal(EMPTY, ("turn", 0, 0))

    def test_by_any_number(self):
        self.assert_legal(TREFOIL, ("turn", 0, 2), ([[3, -1, 2, -3, 1, -2]], TREFOIL[1]))
        self.assert_legal(TREFOIL, ("turn", 0, -1), ([[-3, 1, -2, 3, -1, 2]], TREFOIL[1]))
        for by in (0, 6, -12, 6 * 10 ** 58):
            self.assert_legal(TREFOIL, ("turn", 0, by), TREFOIL)
        for by in (BIG, -BIG, 10 ** 59 + 1, 5, -7):
            walk = [TREFOIL[0][0][(place + by) % 6] for place in range(6)]
            self.assert_legal(TREFOIL, ("turn", 0, by), ([walk], TREFOIL[1]))

    def test_a_walk_without_passages_or_of_one(self):
        for by in (0, 1, -1, BIG, -BIG):
            self.assert_legal(RING, ("turn", 0, by), RING)
            self.assert_legal(FAR, ("turn", 1, by), FAR)
            self.assert_legal(ONE_EACH, ("turn", 1, by), ONE_EACH)

    def test_undone(self):
        for by in (0, 1, -4, 7, BIG, -BIG):
            self.assertEqual(undone(TREFOIL, ("turn", 0, by)), ("turn", 0, -by))
            self.assertEqual(undone(FAR, ("turn", 1, by)), ("turn", 1, -by))


class Curl(MovesTest):
    def test_places(self):
        signs = [(1, -1), (2, -1), (7, 1)]
        for place, walk in enumerate(([7, -7, 2, -1], [2, 7, -7, -1], [2, -1, 7, -7])):
            self.assert_legal(HOPF, ("curl", 1, place, 7, "over", 1), ([[1, -2], walk], signs))
        for place in (-BIG, -2, -1, 3, 4, BIG):
            self.assert_not_legal(HOPF, ("curl", 1, place, 7, "over", 1))
        for walk in (-1, -2, 2, 3, BIG):
            self.assert_not_legal(HOPF, ("curl", walk, 0, 7, "over", 1))

    def test_a_walk_without_passages_and_of_one(self):
        self.assert_legal(RING, ("curl", 0, 0, 1, "under", -1), ([[-1, 1]], [(1, -1)]))
        self.assert_not_legal(RING, ("curl", 0, 1, 1, "under", -1))
        self.assert_not_legal(RING, ("curl", 0, -1, 1, "under", -1))
        for place, walk in enumerate(([3, -3, -1], [-1, 3, -3])):
            self.assert_legal(ONE_EACH, ("curl", 1, place, 3, "over", 1), ([[1], walk], [(1, -1), (3, 1)]))
        self.assert_not_legal(ONE_EACH, ("curl", 1, 2, 3, "over", 1))

    def test_crossings(self):
        for crossing in (4, 5, 1000, BIG):
            self.assert_legal(TREFOIL, ("curl", 0, 0, crossing, "over", 1))
        for crossing in (0, -1, -4, -5, -BIG, 1, 2, 3):
            self.assert_not_legal(TREFOIL, ("curl", 0, 0, crossing, "over", 1))
        # The new crossing may be less than all the others, or between them.
        self.assert_legal(
            ([[5, -9], [9, -5]], [(5, 1), (9, -1)]), ("curl", 0, 1, 7, "over", -1),
            ([[5, 7, -7, -9], [9, -5]], [(5, 1), (7, -1), (9, -1)]),
        )
        self.assert_legal(([[5, -5]], [(5, 1)]), ("curl", 0, 1, 2, "over", 1), ([[5, 2, -2, -5]], [(2, 1), (5, 1)]))

    def test_first(self):
        self.assert_legal(HOPF, ("curl", 0, 1, 4, "over", 1), ([[1, 4, -4, -2], [2, -1]], HOPF[1] + [(4, 1)]))
        self.assert_legal(HOPF, ("curl", 0, 1, 4, "under", 1), ([[1, -4, 4, -2], [2, -1]], HOPF[1] + [(4, 1)]))
        for first in ("", "Over", "overunder", "o", "under ", " over", "over\n", "mid", "OVER", "und"):
            self.assert_not_legal(HOPF, ("curl", 0, 1, 4, first, 1))

    def test_signs(self):
        for sign in (1, -1):
            self.assert_legal(HOPF, ("curl", 0, 1, 4, "over", sign), ([[1, 4, -4, -2], [2, -1]], HOPF[1] + [(4, sign)]))
        for sign in (0, 2, -2, 3, BIG, -BIG):
            self.assert_not_legal(HOPF, ("curl", 0, 1, 4, "over", sign))

    def test_at_most_39_crossings_ahead(self):
        for count, taken in ((38, True), (39, True), (40, False)):
            drawing = of_crossings(count)
            for move in (("curl", 2, 0, count + 1, "over", 1), ("curl", 3, 1, BIG, "under", -1)):
                if taken:
                    self.assert_legal(drawing, move)
                else:
                    self.assert_not_legal(drawing, move)
        self.assert_legal(made(range(5, 44), 3), ("curl", 1, 0, 4, "over", 1))
        self.assert_not_legal(made(range(5, 45), 3), ("curl", 1, 0, 4, "over", 1))

    def test_undone(self):
        for move in (("curl", 1, 0, 7, "over", 1), ("curl", 1, 1, 9, "under", -1), ("curl", 1, 2, 5, "over", -1)):
            self.assertEqual(undone(HOPF, move), ("uncurl", 1, move[2]))


class Uncurl(MovesTest):
    def test_places(self):
        drawing = ([[1, -1, 2, -2], [-3, 3]], [(1, 1), (2, -1), (3, 1)])
        self.assert_legal(drawing, ("uncurl", 0, 0), ([[2, -2], [-3, 3]], [(2, -1), (3, 1)]))
        self.assert_legal(drawing, ("uncurl", 0, 2), ([[1, -1], [-3, 3]], [(1, 1), (3, 1)]))
        self.assert_legal(drawing, ("uncurl", 1, 0), ([[1, -1, 2, -2], []], [(1, 1), (2, -1)]))
        for walk, place in ((0, 1), (0, 3), (0, 4), (0, -1), (0, -4), (1, 1), (1, -1), (-1, 0), (-2, 0), (2, 0)):
            self.assert_not_legal(drawing, ("uncurl", walk, place))

    def test_the_middle(self):
        drawing = ([[1, -2, 4, -4, 2, -1]], [(1, 1), (2, 1), (4, -1)])
        left = ([[1, -2, 2, -1]], [(1, 1), (2, 1)])
        self.assert_legal(drawing, ("uncurl", 0, 2), left)
        self.assert_legal(left, ("uncurl", 0, 1), ([[1, -1]], [(1, 1)]))

    def test_the_last_with_the_first_is_no_pair(self):
        drawing = ([[1, 2, -2, -1]], [(1, 1), (2, 1)])
        self.assert_not_legal(drawing, ("uncurl", 0, 3))
        self.assert_not_legal(drawing, ("uncurl", 0, -1))
        self.assert_legal(drawing, ("uncurl", 0, 1), ([[1, -1]], [(1, 1)]))
        self.assert_not_legal(CURL, ("uncurl", 0, 1))

    def test_the_pair_alone(self):
        for walk in ([1, -1], [-1, 1]):
            self.assert_legal(([walk], [(1, -1)]), ("uncurl", 0, 0), RING)

    def test_walks_without_a_pair(self):
        for place in (-2, -1, 0, 1):
            self.assert_not_legal(RING, ("uncurl", 0, place))
            self.assert_not_legal(ONE_EACH, ("uncurl", 0, place))
            self.assert_not_legal(ONE_EACH, ("uncurl", 1, place))

    def test_passages_that_are_not_opposite(self):
        for place in range(5):
            self.assert_not_legal(TREFOIL, ("uncurl", 0, place))
        drawing = ([[1, 2, -1, -2]], [(1, 1), (2, 1)])
        for place in range(4):
            self.assert_not_legal(drawing, ("uncurl", 0, place))

    def test_undone(self):
        drawing = ([[1, -1, 2, -2], [-3, 3]], [(1, 1), (2, -1), (3, 1)])
        self.assertEqual(undone(drawing, ("uncurl", 0, 0)), ("curl", 0, 0, 1, "over", 1))
        self.assertEqual(undone(drawing, ("uncurl", 0, 2)), ("curl", 0, 2, 2, "over", -1))
        self.assertEqual(undone(drawing, ("uncurl", 1, 0)), ("curl", 1, 0, 3, "under", 1))

    def test_forty_crossings(self):
        self.assert_legal(of_crossings(40), ("uncurl", 0, 0))


class Lay(MovesTest):
    def test_two_walks(self):
        signs = HOPF[1] + [(7, 1), (8, -1)]
        self.assert_legal(HOPF, ("lay", 0, 1, 1, 2, 7, 8, False, 1), ([[1, 7, 8, -2], [2, -1, -7, -8]], signs))
        self.assert_legal(HOPF, ("lay", 0, 1, 1, 0, 7, 8, True, 1), ([[1, 7, 8, -2], [-8, -7, 2, -1]], signs))
        self.assert_legal(
            HOPF, ("lay", 1, 0, 0, 1, 8, 7, False, -1), ([[1, -8, -7, -2], [8, 7, 2, -1]], HOPF[1] + [(7, 1), (8, -1)]),
        )
        for place in (-1, 3, 4, BIG):
            self.assert_not_legal(HOPF, ("lay", 0, place, 1, 0, 7, 8, False, 1))
            self.assert_not_legal(HOPF, ("lay", 0, 0, 1, place, 7, 8, False, 1))
        for walk in (-2, -1, 2, 3, BIG):
            self.assert_not_legal(HOPF, ("lay", walk, 0, 0, 0, 7, 8, False, 1))
            self.assert_not_legal(HOPF, ("lay", 0, 0, walk, 0, 7, 8, False, 1))

    def test_one_walk(self):
        signs = [(1, 1), (7, -1), (8, 1)]
        expected = {
            0: [-7, -8, 1, 7, 8, -1], 1: [1, -7, -8, 7, 8, -1], 3: [1, 7, 8, -7, -8, -1], 4: [1, 7, 8, -1, -7, -8],
        }
        for place, walk in expected.items():
            self.assert_legal(CURL, ("lay", 0, 1, 0, place, 7, 8, False, -1), ([walk], signs))
        for place in (-1, 2, 5, 6, BIG):
            self.assert_not_legal(CURL, ("lay", 0, 1, 0, place, 7, 8, False, -1))

    def test_between_the_two_just_laid(self):
        for drawing in tiny_drawings():
            for walk, passages in enumerate(drawing[0]):
                for place in range(len(passages) + 1):
                    self.assert_not_legal(drawing, ("lay", walk, place, walk, place + 1, 77, 78, True, 1))
        # In another walk the same place is not between them.
        self.assert_legal(HOPF, ("lay", 0, 0, 1, 1, 7, 8, True, 1))

    def test_walks_without_passages(self):
        signs = [(7, 1), (8, -1)]
        self.assert_legal(RING, ("lay", 0, 0, 0, 0, 7, 8, False, 1), ([[-7, -8, 7, 8]], signs))
        self.assert_legal(RING, ("lay", 0, 0, 0, 2, 7, 8, True, 1), ([[7, 8, -8, -7]], signs))
        for place in (-1, 1, 3):
            self.assert_not_legal(RING, ("lay", 0, 0, 0, place, 7, 8, False, 1))
        self.assert_not_legal(RING, ("lay", 0, 1, 0, 0, 7, 8, False, 1))
        two = ([[], []], [])
        self.assert_legal(two, ("lay", 1, 0, 0, 0, 8, 7, True, -1), ([[-7, -8], [8, 7]], signs))
        self.assert_not_legal(two, ("lay", 1, 0, 0, 1, 8, 7, True, -1))
        self.assert_not_legal(two, ("lay", 1, 0, 0, 2, 8, 7, True, -1))

    def test_crossings(self):
        self.assert_legal(HOPF, ("lay", 0, 0, 1, 0, 3, 4, False, 1))
        self.assert_legal(HOPF, ("lay", 0, 0, 1, 0, 4, 3, False, 1))
        self.assert_legal(HOPF, ("lay", 0, 0, 1, 0, BIG, 3, False, 1))
        wrong = [(3, 3), (0, 3), (3, 0), (-3, 3), (3, -3), (-3, 4), (3, -4), (1, 3), (3, 2), (-1, 3), (3, -BIG)]
        for one, two in wrong:
            self.assert_not_legal(HOPF, ("lay", 0, 0, 1, 0, one, two, False, 1))
            self.assert_not_legal(HOPF, ("lay", 0, 0, 0, 0, one, two, True, -1))

    def test_signs(self):
        for sign in (1, -1):
            told = done(HOPF, ("lay", 0, 0, 1, 0, 9, 4, True, sign))
            self.assertEqual(told[1], HOPF[1] + [(4, -sign), (9, sign)])
        for sign in (0, 2, -2, 3, BIG, -BIG):
            self.assert_not_legal(HOPF, ("lay", 0, 0, 1, 0, 9, 4, True, sign))

    def test_at_most_38_crossings_ahead(self):
        for count, taken in ((37, True), (38, True), (39, False), (40, False)):
            drawing = of_crossings(count)
            for move in (("lay", 2, 0, 2, 2, 77, 78, False, 1), ("lay", 2, 0, 1, 4, 78, 77, True, -1)):
                if taken:
                    self.assert_legal(drawing, move)
                else:
                    self.assert_not_legal(drawing, move)

    def test_undone(self):
        self.assertEqual(undone(HOPF, ("lay", 0, 1, 1, 2, 7, 8, False, 1)), ("unlay", 0, 1, 1, 2))
        self.assertEqual(undone(HOPF, ("lay", 0, 2, 1, 0, 7, 8, True, 1)), ("unlay", 0, 2, 1, 0))
        overs = {0: 3, 1: 3, 3: 1, 4: 1}
        for under, over in overs.items():
            self.assertEqual(undone(CURL, ("lay", 0, 1, 0, under, 7, 8, True, 1)), ("unlay", 0, over, 0, under))


class Unlay(MovesTest):
    def test_two_walks(self):
        left = ([[3], [-3]], [(3, 1)])
        self.assert_legal(LAID_APART, ("unlay", 1, 1, 0, 0), left)
        for move in (
            ("unlay", 1, 0, 0, 0), ("unlay", 1, 2, 0, 0), ("unlay", 1, 1, 0, 1), ("unlay", 1, 1, 0, -1),
            ("unlay", 1, -2, 0, 0), ("unlay", 0, 0, 1, 1), ("unlay", 1, 1, 1, 1), ("unlay", 0, 0, 0, 0),
            ("unlay", -1, 1, 0, 0), ("unlay", 1, 1, -2, 0), ("unlay", 2, 1, 0, 0), ("unlay", 1, 1, 2, 0),
        ):
            self.assert_not_legal(LAID_APART, move)

    def test_one_walk_either_ahead(self):
        self.assert_legal(LAID, ("unlay", 0, 0, 0, 4), ([[3, -3]], [(3, 1)]))
        drawing = ([[3, -1, -2, -3, 2, 1]], [(1, 1), (2, -1), (3, 1)])
        self.assert_legal(drawing, ("unlay", 0, 4, 0, 1), ([[3, -3]], [(3, 1)]))
        for walk in ([1, 2, -1, -2], [1, 2, -2, -1], [2, 1, -1, -2]):
            self.assert_legal(([walk], [(1, 1), (2, -1)]), ("unlay", 0, 0, 0, 2), RING)
        for walk in ([-1, -2, 1, 2], [-1, -2, 2, 1]):
            self.assert_legal(([walk], [(1, -1), (2, 1)]), ("unlay", 0, 2, 0, 0), RING)

    def test_the_pairs_alone_in_two_walks(self):
        for over, under in itertools.product(([1, 2], [2, 1]), ([-1, -2], [-2, -1])):
            self.assert_legal(([over, under], [(1, 1), (2, -1)]), ("unlay", 0, 0, 1, 0), ([[], []], []))
            self.assert_legal(([under, over], [(1, -1), (2, 1)]), ("unlay", 1, 0, 0, 0), ([[], []], []))
            # The last with the first one is no pair.
            self.assert_not_legal(([over, under], [(1, 1), (2, -1)]), ("unlay", 0, 1, 1, 0))
            self.assert_not_legal(([over, under], [(1, 1), (2, -1)]), ("unlay", 0, 0, 1, 1))

    def test_the_same_signs(self):
        for sign in (1, -1):
            self.assert_not_legal((LAID[0], [(1, sign), (2, sign), (3, -sign)]), ("unlay", 0, 0, 0, 4))
            self.assert_not_legal(([[1, 2], [-1, -2]], [(1, sign), (2, sign)]), ("unlay", 0, 0, 1, 0))

    def test_passages_of_other_crossings(self):
        drawing = ([[1, 2, 3], [-1, -3, -2]], [(1, 1), (2, -1), (3, 1)])
        for over, under in itertools.product(range(-1, 3), repeat=2):
            expected = (over, under) == (1, 1)
            self.assertIs(legal(drawing, ("unlay", 0, over, 1, under)), expected)
        # The opposite of one passage alone, and one crossing over and under in each pair.
        self.assert_not_legal(([[1, 2], [-1, -3], [3, -2]], [(1, 1), (2, -1), (3, -1)]), ("unlay", 0, 0, 1, 0))
        self.assert_not_legal(([[1, -2], [-1, 2]], [(1, 1), (2, -1)]), ("unlay", 0, 0, 1, 0))

    def test_two_under_passages_as_the_over_pair(self):
        for over, under in itertools.product(([1, 2], [2, 1]), ([-1, -2], [-2, -1])):
            self.assert_not_legal(([over, under], [(1, 1), (2, -1)]), ("unlay", 1, 0, 0, 0))
            self.assert_not_legal(([over + under], [(1, 1), (2, -1)]), ("unlay", 0, 2, 0, 0))
            self.assert_not_legal(([over, under], [(1, 1), (2, -1)]), ("unlay", 0, 0, 0, 0))

    def test_undone(self):
        self.assertEqual(undone(LAID, ("unlay", 0, 0, 0, 4)), ("lay", 0, 0, 0, 4, 1, 2, False, 1))
        self.assertEqual(undone(LAID_APART, ("unlay", 1, 1, 0, 0)), ("lay", 1, 1, 0, 0, 2, 1, True, 1))
        drawing = ([[3, -1, -2, -3, 2, 1]], [(1, 1), (2, -1), (3, 1)])
        self.assertEqual(undone(drawing, ("unlay", 0, 4, 0, 1)), ("lay", 0, 2, 0, 1, 2, 1, True, -1))
        drawing = ([[-1, -2, 1, 2]], [(1, -1), (2, 1)])
        self.assertEqual(undone(drawing, ("unlay", 0, 2, 0, 0)), ("lay", 0, 0, 0, 0, 1, 2, False, -1))

    def test_forty_crossings(self):
        self.assert_legal(of_crossings(40), ("unlay", 1, 0, 1, 2))


class Pass(MovesTest):
    def test_all_orders_and_signs(self):
        taken = {}
        for drawing, move, expected in all_passings():
            self.assertIsNone(fault(drawing))
            self.assertIs(legal(drawing, move), expected, (drawing, move))
            if expected:
                taken[len(drawing[0])] = taken.get(len(drawing[0]), 0) + 1
                self.assert_legal(drawing, move, plain_done(drawing, move))
                self.assertEqual(undone(drawing, move), move)
            else:
                self.assert_not_legal(drawing, move)
        # Of the 64 orders and signs 16 keep both equations, in each of six deals, with and without a fourth crossing.
        self.assertEqual(taken, {1: 32, 2: 96, 3: 64})

    def test_one_by_hand(self):
        drawing = ([[1, 2], [-1, 3], [-2, -3]], [(1, 1), (2, 1), (3, 1)])
        move = ("pass", 0, 0, 1, 0, 2, 0)
        self.assert_legal(drawing, move, ([[2, 1], [3, -1], [-3, -2]], drawing[1]))
        # p alone, q alone and r alone the other way about.
        for walks in ([[2, 1], [-1, 3], [-2, -3]], [[1, 2], [3, -1], [-2, -3]], [[1, 2], [-1, 3], [-3, -2]]):
            self.assert_not_legal((walks, drawing[1]), move)
        for signs in itertools.product((1, -1), repeat=3):
            changed = (drawing[0], list(zip((1, 2, 3), signs)))
            self.assertIs(legal(changed, move), signs in ((1, 1, 1), (-1, -1, -1)))

    def test_the_other_one_as_a(self):
        # The under passage in the mid pair is of the second one of the top pair: p is -1.
        drawing = ([[1, 2], [-2, 3], [-1, -3]], [(1, 1), (2, 1), (3, 1)])
        self.assert_not_legal(drawing, ("pass", 0, 0, 1, 0, 2, 0))
        turned = ([[1, 2], [-2, 3], [-3, -1]], [(1, 1), (2, -1), (3, -1)])
        self.assertIs(legal(turned, ("pass", 0, 0, 1, 0, 2, 0)), True)

    def test_pairs_of_other_passages(self):
        wrong = [
            ([[1, -2], [-1, 3], [2, -3]], (1, 1, 1)), ([[1, 2], [-1, -3], [-2, 3]], (1, 1, 1)),
            ([[1, 2], [-1, 3], [-2, 4], [-3, -4]], (1, 1, 1, 1)), ([[1, 2], [-1, 3], [-4, -3], [4, -2]], (1, 1, 1, 1)),
            ([[1, 4], [-1, 3], [-2, -3], [2, -4]], (1, 1, 1, 1)), ([[1, 2], [4, 3], [-2, -3], [-1, -4]], (1, 1, 1, 1)),
            ([[1, 2], [-4, 3], [-2, -3], [-1, 4]], (1, 1, 1, 1)), ([[-1, -2], [1, 3], [2, -3]], (1, 1, 1)),
            ([[1, 2], [-1, -2], [3, -3]], (1, 1, 1)), ([[1, 2], [3, -3], [-1, -2]], (1, 1, 1)),
            ([[1, 2, -1], [3], [-2, -3]], (1, 1, 1)), ([[1, 2], [-1, 3], [-2], [-3]], (1, 1, 1)),
        ]
        for walks, values in wrong:
            for signs in itertools.product((1, -1), repeat=len(values)):
                drawing = (walks, list(zip(range(1, 5), signs)))
                self.assertIsNone(fault(drawing))
                self.assert_not_legal(drawing, ("pass", 0, 0, 1, 0, 2, 0))

    def test_the_third_crossing_is_a_third_one(self):
        # The mid pair has the over passage of b itself, which stands in the top pair, too.
        drawing = ([[1, 2, -1], [-2, 3, -3]], [(1, 1), (2, 1), (3, 1)])
        for mid, low in itertools.product(range(3), repeat=2):
            self.assert_not_legal(drawing, ("pass", 0, 0, 0, mid, 1, low))

    def test_only_the_pairs_named(self):
        drawing, move = passing((1, 1, 1), (1, 1, 1), (0, 1, 2))
        self.assert_legal(drawing, move)
        for at in range(1, 7):
            for far in (-BIG, -3, -2, -1, 3, 4, BIG) + ((1, 2) if at % 2 == 0 else ()):
                self.assert_not_legal(drawing, move[:at] + (far,) + move[at + 1:])
        for pairs in itertools.product(range(3), repeat=3):
            told = ("pass", pairs[0], 0, pairs[1], 0, pairs[2], 0)
            self.assertIs(legal(drawing, told), told == move)

    def test_the_last_with_the_first_is_no_pair(self):
        walks = [[2, 9, -9, 1], [-1, 3], [-2, -3]]
        drawing = (walks, [(1, 1), (2, 1), (3, 1), (9, 1)])
        self.assert_not_legal(drawing, ("pass", 0, 3, 1, 0, 2, 0))
        self.assert_not_legal(drawing, ("pass", 0, -1, 1, 0, 2, 0))
        self.assert_legal(([[1, 2, 9, -9]] + walks[1:], drawing[1]), ("pass", 0, 0, 1, 0, 2, 0))


if __name__ == "__main__":
    unittest.main()
