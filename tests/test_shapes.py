"""Point 11, and 2, 3, 4 for plait/shapes.py."""

import unittest

from plait.drawings import fault
from plait.errors import TooBig
from plait.shapes import backward, beside, flipped, turned
from tests.helpers import BIG, FAR, HOPF, TREFOIL, PlaitTest, many_drawings, numbered

EMPTY = ([], [])


class Turned(PlaitTest):
    def test_what_stood_at_by_stands_at_nought(self):
        self.assertEqual(turned(TREFOIL, 0, 2), ([[3, -1, 2, -3, 1, -2]], TREFOIL[1]))
        self.assertEqual(turned(TREFOIL, 0, -1), ([[-3, 1, -2, 3, -1, 2]], TREFOIL[1]))
        self.assertEqual(turned(HOPF, 1, 1), ([[1, -2], [-1, 2]], HOPF[1]))
        self.assertEqual(turned(FAR, 2, -3)[0][2], [10 ** 30, 7, -(10 ** 30), -BIG])

    def test_nought_and_the_length_change_nothing(self):
        for by in (0, 6, -6, 12, 6 * 10 ** 58, -6 * 10 ** 58):
            self.assertEqual(turned(TREFOIL, 0, by), TREFOIL)

    def test_a_walk_without_passages_stays(self):
        for by in (0, 1, -1, 5, BIG, -BIG):
            self.assertEqual(turned(FAR, 1, by), FAR)
            self.assertEqual(turned(([[]], []), 0, by), ([[]], []))

    def test_a_walk_of_one_passage(self):
        for by in (0, 1, -1, 2, BIG):
            self.assertEqual(turned(([[1], [-1]], [(1, 1)]), 1, by), ([[1], [-1]], [(1, 1)]))

    def test_by_of_any_size(self):
        for drawing in many_drawings():
            for walk, passages in enumerate(drawing[0]):
                size = len(passages)
                for by in (0, 1, -1, size, size + 1, -size - 2, 3 * size - 1, 10 ** 59 + 7, BIG, -BIG):
                    told = turned(drawing, walk, by)
                    expected = [passages[(place + by) % size] for place in range(size)]
                    self.assertEqual(told[0][walk], expected)
                    self.assertEqual(told[0][:walk] + told[0][walk + 1:], drawing[0][:walk] + drawing[0][walk + 1:])
                    self.assertEqual(told[1], drawing[1])
                    self.assertEqual(turned(told, walk, -by), drawing)

    def test_own_lists(self):
        for drawing in many_drawings():
            for walk in range(len(drawing[0])):
                for by in (0, 1, len(drawing[0][walk]), -BIG):
                    self.assert_own_lists(turned, drawing, walk, by)


class Flipped(PlaitTest):
    def test_each_sign_is_turned(self):
        self.assertEqual(flipped(EMPTY), EMPTY)
        self.assertEqual(flipped(([[], []], [])), ([[], []], []))
        self.assertEqual(flipped(HOPF), ([[1, -2], [2, -1]], [(1, 1), (2, 1)]))
        self.assertEqual(flipped(FAR), (FAR[0], [(7, 1), (10 ** 30, -1), (BIG, 1)]))

    def test_twice_is_the_drawing(self):
        for drawing in many_drawings():
            told = flipped(drawing)
            self.assertEqual(told, (drawing[0], [(crossing, -sign) for crossing, sign in drawing[1]]))
            self.assert_whole(told)
            self.assertIsNone(fault(told))
            self.assertEqual(flipped(told), drawing)

    def test_own_lists(self):
        for drawing in many_drawings():
            self.assert_own_lists(flipped, drawing)


class Backward(PlaitTest):
    def test_each_walk_in_opposite_order(self):
        self.assertEqual(backward(EMPTY), EMPTY)
        self.assertEqual(backward(TREFOIL), ([[-3, 2, -1, 3, -2, 1]], TREFOIL[1]))
        self.assertEqual(backward(HOPF), ([[-2, 1], [-1, 2]], HOPF[1]))
        self.assertEqual(backward(FAR), ([[-7, BIG], [], [-(10 ** 30), 7, 10 ** 30, -BIG]], FAR[1]))

    def test_twice_is_the_drawing(self):
        for drawing in many_drawings():
            told = backward(drawing)
            self.assertEqual(told, ([walk[::-1] for walk in drawing[0]], drawing[1]))
            self.assert_whole(told)
            self.assertEqual(backward(told), drawing)

    def test_own_lists(self):
        for drawing in many_drawings():
            self.assert_own_lists(backward, drawing)


class Beside(PlaitTest):
    def test_the_second_ones_crossings_are_made_greater(self):
        walks = [[1, -2], [2, -1], [3, -4, 5, -3, 4, -5]]
        signs = [(1, -1), (2, -1), (3, 1), (4, 1), (5, 1)]
        self.assertEqual(beside(HOPF, TREFOIL), (walks, signs))
        walks = [[1, -2, 3, -1, 2, -3], [4, -5], [5, -4]]
        signs = [(1, 1), (2, 1), (3, 1), (4, -1), (5, -1)]
        self.assertEqual(beside(TREFOIL, HOPF), (walks, signs))

    def test_drawings_without_crossings(self):
        self.assertEqual(beside(EMPTY, EMPTY), EMPTY)
        for drawing in many_drawings():
            self.assertEqual(beside(EMPTY, drawing), drawing)
            self.assertEqual(beside(drawing, EMPTY), drawing)
        self.assertEqual(beside(([[]], []), HOPF), ([[]] + HOPF[0], HOPF[1]))
        self.assertEqual(beside(FAR, ([[], []], [])), (FAR[0] + [[], []], FAR[1]))

    def test_names_far_apart(self):
        more = ([[5, -100, 100, -5]], [(5, -1), (100, 1)])
        high = [[BIG + 5, -BIG - 100, BIG + 100, -BIG - 5]]
        self.assertEqual(beside(FAR, more), (FAR[0] + high, FAR[1] + [(BIG + 5, -1), (BIG + 100, 1)]))
        walks = more[0] + [[BIG + 100, -107], [], [-BIG - 100, 10 ** 30 + 100, 107, -(10 ** 30) - 100]]
        signs = more[1] + [(107, -1), (10 ** 30 + 100, 1), (BIG + 100, -1)]
        self.assertEqual(beside(more, FAR), (walks, signs))

    def test_one_drawing_twice(self):
        self.assertEqual(beside(HOPF, HOPF), (HOPF[0] + [[3, -4], [4, -3]], HOPF[1] + [(3, -1), (4, -1)]))
        for drawing in many_drawings():
            if len(drawing[0]) <= 6 and len(drawing[1]) <= 20:
                told = beside(drawing, drawing)
                self.assert_whole(told)
                self.assertIsNone(fault(told))
                self.assert_own_lists(beside, drawing, drawing)

    def test_just_forty_crossings(self):
        for one, other in ((0, 40), (1, 39), (20, 20), (40, 0)):
            told = beside(numbered(one, 1), numbered(other, 2))
            self.assertEqual((len(told[0]), len(told[1])), (3, 40))
            self.assertIsNone(fault(told))
        for one, other in ((1, 40), (2, 39), (20, 21), (40, 1), (40, 40)):
            self.assert_refused(TooBig, beside, numbered(one, 1), numbered(other, 2))

    def test_just_twelve_walks(self):
        for one, other in ((0, 12), (1, 11), (6, 6), (12, 0)):
            first = numbered(3 if one else 0, one)
            told = beside(first, numbered(3 if other else 0, other))
            self.assertEqual(len(told[0]), 12)
            self.assertIsNone(fault(told))
        for one, other in ((1, 12), (6, 7), (12, 1), (12, 12)):
            self.assert_refused(TooBig, beside, numbered(3, one), numbered(3, other))
            self.assert_refused(TooBig, beside, numbered(0, one), numbered(0, other))

    def test_just_both(self):
        self.assertEqual(fault(beside(numbered(20, 6), numbered(20, 6))), None)
        self.assert_refused(TooBig, beside, numbered(20, 6), numbered(21, 7))

    def test_one_drawing_twice_that_is_too_big(self):
        for drawing in (numbered(21, 1), numbered(1, 7)):
            self.assert_refused(TooBig, beside, drawing, drawing)

    def test_refused_once_and_taken_then(self):
        one = numbered(3, 12)
        other = ([[1, -1]], [(1, 1)])
        self.assert_refused(TooBig, beside, one, other)
        one[0].remove([])
        self.assertEqual(beside(one, other), (one[0] + [[4, -4]], one[1] + [(4, 1)]))

    def test_own_lists(self):
        for drawing in many_drawings():
            if len(drawing[0]) <= 10 and len(drawing[1]) <= 38:
                self.assert_own_lists(beside, drawing, HOPF)
                self.assert_own_lists(beside, HOPF, drawing)


if __name__ == "__main__":
    unittest.main()
