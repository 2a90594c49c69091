"""Points 30, 33, and 2, 3, 4, 5 for plait/carrying.py."""

import itertools
import random
import unittest

from plait.carrying import carried
from plait.colours import colourings
from plait.errors import NoFit, NoMove
from plait.moves import done, undone
from tests.helpers import (
    BIG, FAR, HOPF, OF_THREE, TREFOIL, PlaitTest, all_passings, chain_from, conjugation_table, formula_table,
    legal_moves, numbered, one_column, plain_arcs, plain_legal, put_beside, tried_moves,
)

RING = ([[]], [])
# Tables that tell a by b from a by b in the dual, over from under, and the third rule from its breach.
TABLES = [
    [[0]], formula_table(3, -1), one_column(3, 1, [2, 1, 0]), formula_table(5, 2), one_column(4, 3, [1, 2, 0, 3]),
    put_beside(formula_table(4, 3), formula_table(2, 1)), conjugation_table(OF_THREE),
]
STRAIGHT = formula_table(5, 2)
# Of four colours, with one orbit, and unlike its dual: the turns of a tetrahedron.
TETRAHEDRON = [[0, 2, 3, 1], [3, 1, 0, 2], [1, 3, 2, 0], [2, 0, 1, 3]]


def labelled(drawing):
    """The ways of the drawing, each told by its walk and its number."""
    return [[(walk, way) for way in range(max(len(passages), 1))] for walk, passages in enumerate(drawing[0])]


def plain_cut(walks, ways, walk, place):
    """Point 30 word by word: the walks and the ways with one pair cut out."""
    walks, ways = [list(each) for each in walks], [list(each) for each in ways]
    if len(walks[walk]) == 2:
        walks[walk], ways[walk] = [], [ways[walk][0]]
    else:
        del walks[walk][place:place + 2], ways[walk][place:place + 2]
    return walks, ways


def plain_left(drawing, move):
    """For each way of the new drawing the way that it was in the old one, None where point 33 names none."""
    walks, ways = drawing[0], labelled(drawing)
    word, rest = move[0], move[1:]
    if word == "turn":
        walk, by = rest
        size = len(ways[walk])
        ways[walk] = [ways[walk][(way + by) % size] for way in range(size)]
    elif word == "uncurl":
        walks, ways = plain_cut(walks, ways, *rest)
    elif word == "unlay":
        first, second = sorted((rest[:2], rest[2:]))
        # The last one is cut out first, so the places ahead of the move still hold.
        walks, ways = plain_cut(walks, ways, *second)
        walks, ways = plain_cut(walks, ways, *first)
    else:
        for walk, place in zip(rest[::2], rest[1::2]):
            ways[walk][place + 1] = None
    return ways


def way_colours(arcs, colours):
    return [[colours[arc] for arc in ways] for ways in arcs]


def kept(left, ways):
    """The colours of just those ways that are named."""
    return [ways[way[0]][way[1]] for named in left for way in named if way is not None]


def standing(left):
    """The ways themselves at whose place an old one is named."""
    return [[(walk, at) if way is not None else None for at, way in enumerate(ways)] for walk, ways in enumerate(left)]


def carries(drawing, move, table):
    """For each colouring of the old drawing all those of the new one that point 33 lets come of it."""
    new = done(drawing, move)
    if move[0] in ("curl", "lay"):
        new_left = plain_left(new, undone(drawing, move))
        old_left = standing(new_left)
    else:
        old_left = plain_left(drawing, move)
        new_left = standing(old_left)
    old_arcs, new_arcs = plain_arcs(drawing), plain_arcs(new)
    found = {}
    for colours in colourings(new, table):
        found.setdefault(tuple(kept(new_left, way_colours(new_arcs, colours))), []).append(colours)
    for colours in colourings(drawing, table):
        yield colours, found.get(tuple(kept(old_left, way_colours(old_arcs, colours))), [])


class Carried(PlaitTest):
    def assert_carries(self, drawing, move, table):
        """Each colouring goes into the one that the point names, and back; none is left out."""
        new, back = done(drawing, move), undone(drawing, move)
        told = []
        for colours, expected in carries(drawing, move, table):
            found = carried(drawing, move, table, colours)
            self.assertEqual([found], expected, (drawing, move, colours))
            self.assertEqual(carried(new, back, table, found), colours)
            told.append(found)
        self.assertEqual(sorted(told), colourings(new, table))

    def test_every_move_of_tiny_drawings(self):
        drawings = [RING, ([[], []], []), ([[1, -1]], [(1, 1)]), ([[-1], [1]], [(1, -1)]), ([[-1, 1], []], [(1, -1)])]
        counted = {}
        for drawing, table in itertools.product(drawings, TABLES):
            for move in legal_moves(drawing):
                self.assert_carries(drawing, move, table)
                counted[move[0]] = counted.get(move[0], 0) + 1
        self.assertEqual(sorted(counted), ["curl", "lay", "turn", "uncurl"])

    def test_moves_of_small_drawings(self):
        drawings = [TREFOIL, HOPF, ([[1, 2, -2], [-1]], [(1, 1), (2, -1)])]
        drawings += [numbered(seed % 3 + 1, 1 + seed % 3, seed) for seed in range(20)]
        for at, drawing in enumerate(drawings):
            source = random.Random(at)
            moves = legal_moves(drawing)
            rare = [move for move in moves if move[0] not in ("lay", "curl")]
            for move in rare + source.sample([move for move in moves if move not in rare], 12):
                self.assert_carries(drawing, move, TABLES[1 + at % 6])
                self.assert_carries(drawing, move, STRAIGHT)

    def test_unlay_of_one_walk_and_of_two(self):
        walks = [[one] + [two] for one, two in itertools.product(([1, 2], [2, 1]), ([-1, -2], [-2, -1]))]
        shapes = []
        for over, under in walks:
            shapes += [[over, under], [under, over], [over + under], [under + over], [over + [3] + under, [-3]]]
            shapes += [[[-3] + under + over + [3]], [over + [3], [-3] + under]]
            shapes += [[[3] + under + [-3], over], [under, [], over]]
        for walks, sign, table in itertools.product(shapes, (1, -1), (TABLES[2], STRAIGHT, TABLES[6])):
            names = sorted({abs(passage) for walk in walks for passage in walk})
            drawing = (walks, list(zip(names, (sign, -sign, sign))))
            moves = [move for move in tried_moves(drawing) if move[0] == "unlay" and plain_legal(drawing, move)]
            self.assertGreater(len(moves), 0)
            for move in moves:
                self.assert_carries(drawing, move, table)

    def test_every_pass(self):
        for at, (drawing, move, taken) in enumerate(all_passings()):
            if taken:
                for table in (STRAIGHT, TABLES[2 + 2 * (at % 3)]):
                    self.assert_carries(drawing, move, table)

    def test_chains_from_drawings_with_many_colourings(self):
        passes = 0
        for seed in range(60):
            drawing = [TREFOIL, ([[], []], []), ([[1, 2], [-1, -2], []], [(1, 1), (2, -1)])][seed % 3]
            for move in chain_from(drawing, 40, seed, 4):
                if move[0] == "pass" or seed < 3:
                    self.assert_carries(drawing, move, TABLES[1])
                    self.assert_carries(drawing, move, TETRAHEDRON)
                passes += move[0] == "pass"
                drawing = done(drawing, move)
        self.assertGreater(passes, 40)

    def test_ways_that_are_laid_at_nought_in_the_middle_and_at_the_length(self):
        # A trefoil with the colours 0, 1, 2: ways 0 0 1 1 2 2.
        turns = formula_table(3, -1)
        expected = {
            0: [0, 0, 1, 2], 1: [0, 0, 1, 2], 2: [0, 1, 1, 2], 4: [0, 1, 2, 2], 6: [0, 1, 2, 0],
        }
        for place, colours in expected.items():
            told = carried(TREFOIL, ("curl", 0, place, 7, "over", 1), turns, [0, 1, 2])
            self.assertEqual(told, colours, place)
        # At the length way 0 is parted: what leads to the pair has its colour, not that of the last way.
        self.assertEqual(carried(TREFOIL, ("curl", 0, 6, 7, "under", -1), turns, [0, 1, 2]), [0, 1, 2, 0])
        self.assertEqual(carried(RING, ("curl", 0, 0, 7, "under", -1), turns, [2]), [2])

    def test_a_laid_pair_by_hand(self):
        two = ([[], []], [])
        # 3 by 1 is 5, 3 back by 1 is 2: 2 * 3 - 1 and 2 * 2 - 1.
        self.assertEqual(carried(two, ("lay", 0, 0, 1, 0, 7, 8, False, 1), STRAIGHT, [1, 3]), [1, 3, 0])
        self.assertEqual(carried(two, ("lay", 0, 0, 1, 0, 7, 8, False, -1), STRAIGHT, [1, 3]), [1, 3, 2])
        self.assertEqual(carried(two, ("lay", 0, 0, 1, 0, 7, 8, True, 1), STRAIGHT, [1, 3]), [1, 3, 2])
        self.assertEqual(carried(two, ("lay", 0, 0, 1, 0, 7, 8, True, -1), STRAIGHT, [1, 3]), [1, 3, 0])
        self.assertEqual(carried(two, ("lay", 1, 0, 0, 0, 7, 8, False, 1), STRAIGHT, [3, 1]), [3, 0, 1])

    def test_turned_walks_number_their_arcs_anew(self):
        turns = formula_table(3, -1)
        self.assertEqual(carried(TREFOIL, ("turn", 0, 2), turns, [0, 1, 2]), [1, 2, 0])
        self.assertEqual(carried(TREFOIL, ("turn", 0, -BIG), turns, [0, 1, 2]), [1, 2, 0])
        self.assertEqual(carried(RING, ("turn", 0, BIG), turns, [2]), [2])
        self.assertEqual(carried(FAR, ("turn", 1, -BIG), [[0]], [0] * 4), [0] * 4)

    def test_the_drawing_at_its_fullest(self):
        walks = [[passage for name in range(1, 39) for passage in (name, -name)], [39, 40, -40, -39]]
        drawing = (walks, [(name, 1) for name in range(1, 40)] + [(40, -1)])
        table = formula_table(24, 7)
        for move in (("unlay", 1, 0, 1, 2), ("uncurl", 0, 74), ("turn", 0, 75), ("uncurl", 1, 1)):
            found = carried(drawing, move, table, [5] * 38 + [6] * 2)
            self.assertEqual(found[:37], [5] * 37)
            back = undone(drawing, move)
            self.assertEqual(carried(done(drawing, move), back, table, found), [5] * 38 + [6] * 2)

    def test_no_move_goes_ahead_of_no_fit(self):
        for colours in ([], [0, 1, 2], [0, 0, 1], [3, 3, 3], [0] * 90, [BIG]):
            for move in (("uncurl", 0, 0), ("turn", 1, 0), ("turn", -1, 0), ("curl", 0, 7, 4, "over", 1)):
                self.assert_refused(NoMove, carried, TREFOIL, move, formula_table(3, -1), colours)

    def test_no_fit(self):
        moves = [("turn", 0, 0), ("turn", 0, 1), ("curl", 0, 3, 4, "over", 1), ("lay", 0, 0, 0, 4, 8, 9, False, 1)]
        wrong = [
            [], [0], [0, 1], [0, 1, 2, 0], [0] * 4, [0] * 90, [0, 0, 1], [0, 1, 1], [1, 0, 0], [3, 3, 3], [-1, -1, -1],
            [0, 1, -1], [0, 1, 5], [0, 1, BIG], [-BIG] * 3,
        ]
        for move, colours in itertools.product(moves, wrong):
            self.assert_refused(NoFit, carried, TREFOIL, move, formula_table(3, -1), colours)
            carried(TREFOIL, move, formula_table(3, -1), [0, 1, 2])
        curl = ([[1, -1]], [(1, 1)])
        for colours in ([], [0, 0], [3], [-1]):
            self.assert_refused(NoFit, carried, curl, ("uncurl", 0, 0), formula_table(3, -1), colours)
        laid = ([[1, 2], [-1, -2]], [(1, 1), (2, -1)])
        self.assertEqual(carried(laid, ("unlay", 0, 0, 1, 0), STRAIGHT, [1, 3, 0]), [1, 3])
        for colours in ([1, 3, 1], [1, 3, 2], [1, 3], [1, 3, 0, 0], [1, 3, 5]):
            self.assert_refused(NoFit, carried, laid, ("unlay", 0, 0, 1, 0), STRAIGHT, colours)
        drawing = ([[1, 2], [-1, 3], [-2, -3]], [(1, 1), (2, 1), (3, 1)])
        self.assert_refused(NoFit, carried, drawing, ("pass", 0, 0, 1, 0, 2, 0), STRAIGHT, [0, 0, 1])

    def test_the_drawing_without_colours(self):
        self.assert_refused(NoMove, carried, ([], []), ("turn", 0, 0), STRAIGHT, [])

    def test_own_lists(self):
        for drawing in [RING, HOPF, TREFOIL, ([[1, 2], [-1, -2]], [(1, 1), (2, -1)])]:
            found = colourings(drawing, STRAIGHT)
            for at, move in enumerate(legal_moves(drawing)[::3]):
                self.assert_own_lists(carried, drawing, move, STRAIGHT, found[at % len(found)])
        for drawing, move, taken in itertools.islice(all_passings(), 0, None, 5):
            if taken:
                self.assert_own_lists(carried, drawing, move, STRAIGHT, colourings(drawing, STRAIGHT)[-1])

    def test_asked_anew(self):
        first = (TREFOIL, ("turn", 0, 2), formula_table(3, -1), [0, 1, 2])
        second = (HOPF, ("curl", 0, 1, 5, "over", 1), formula_table(4, -1), [0, 2])
        self.assert_asked_anew(carried, first, second)
        self.assert_asked_anew(carried, second, first)

    def test_whole(self):
        for move in legal_moves(TREFOIL)[::9]:
            self.assert_whole(carried(TREFOIL, move, formula_table(3, -1), [0, 1, 2]))


if __name__ == "__main__":
    unittest.main()
