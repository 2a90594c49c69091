"""Points 9, 10, and 3 for plait/arcs.py."""

import unittest

from plait.arcs import arc_count, arcs, meets
from tests.helpers import (
    BIG, FAR, HOPF, TREFOIL, PlaitTest, many_drawings, numbered, plain_arcs, plain_meets,
)


class Arcs(PlaitTest):
    def test_no_walk(self):
        self.assertEqual((arcs(([], [])), arc_count(([], []))), ([], 0))

    def test_walks_without_passages(self):
        self.assertEqual((arcs(([[]], [])), arc_count(([[]], []))), ([[0]], 1))
        drawing = ([[], [1, -1], [], []], [(1, 1)])
        self.assertEqual((arcs(drawing), arc_count(drawing)), ([[0], [1, 1], [2], [3]], 4))

    def test_walks_of_one_passage(self):
        for drawing in (([[1], [-1]], [(1, 1)]), ([[-1], [1]], [(1, 1)])):
            self.assertEqual((arcs(drawing), arc_count(drawing)), ([[0], [1]], 2))

    def test_walks_without_under_passages(self):
        drawing = ([[1, 2, 3], [-1, -2, -3]], [(1, 1), (2, 1), (3, 1)])
        self.assertEqual((arcs(drawing), arc_count(drawing)), ([[0, 0, 0], [1, 2, 3]], 4))
        drawing = ([[-1, -2, -3], [1, 2, 3]], [(1, 1), (2, 1), (3, 1)])
        self.assertEqual((arcs(drawing), arc_count(drawing)), ([[0, 1, 2], [3, 3, 3]], 4))

    def test_a_walk_that_begins_within_an_arc(self):
        drawing = ([[1, -2, 3, -1, -3, 2]], [(1, 1), (2, 1), (3, 1)])
        self.assertEqual((arcs(drawing), arc_count(drawing)), ([[0, 0, 1, 1, 2, 0]], 3))
        drawing = ([[-1, 2, 3], [1, -2, 4, -3, 5], [-4, -5]], [(name, 1) for name in range(1, 6)])
        self.assertEqual((arcs(drawing), arc_count(drawing)), ([[0, 0, 0], [1, 1, 2, 2, 1], [3, 4]], 5))

    def test_under_passages_at_the_first_and_the_last_place(self):
        drawing = ([[-1, 2, -3], [3, 1, -2]], [(1, 1), (2, 1), (3, 1)])
        self.assertEqual((arcs(drawing), arc_count(drawing)), ([[0, 1, 1], [2, 2, 2]], 3))
        drawing = ([[-1, -2], [1, 2]], [(1, 1), (2, 1)])
        self.assertEqual(arcs(drawing), [[0, 1], [2, 2]])
        drawing = ([[-1, 1]], [(1, 1)])
        self.assertEqual((arcs(drawing), arc_count(drawing)), ([[0, 0]], 1))

    def test_well_known_drawings(self):
        self.assertEqual((arcs(TREFOIL), arc_count(TREFOIL)), ([[0, 0, 1, 1, 2, 2]], 3))
        self.assertEqual((arcs(HOPF), arc_count(HOPF)), ([[0, 0], [1, 1]], 2))
        self.assertEqual((arcs(FAR), arc_count(FAR)), ([[0, 0], [1], [2, 3, 3, 3]], 4))

    def test_many_drawings(self):
        for drawing in many_drawings() + [numbered(40, 12), numbered(40, 1)]:
            told = arcs(drawing)
            self.assertEqual(told, plain_arcs(drawing))
            self.assert_whole(told)
            walks_without = [walk for walk in drawing[0] if all(passage > 0 for passage in walk)]
            count = arc_count(drawing)
            self.assertEqual(count, len(drawing[1]) + len(walks_without))
            self.assert_whole(count)
            numbers = [number for ways in told for number in ways]
            self.assertEqual(list(dict.fromkeys(numbers)), list(range(count)))
            self.assertEqual([len(ways) for ways in told], [max(len(walk), 1) for walk in drawing[0]])

    def test_own_lists(self):
        for drawing in many_drawings():
            for function in (arcs, arc_count, meets):
                self.assert_own_lists(function, drawing)


class Meets(PlaitTest):
    def test_no_crossing(self):
        self.assertEqual(meets(([], [])), [])
        self.assertEqual(meets(([[], []], [])), [])

    def test_well_known_drawings(self):
        self.assertEqual(meets(TREFOIL), [(1, 1, 0, 1, 2), (2, 1, 2, 0, 1), (3, 1, 1, 2, 0)])
        self.assertEqual(meets(HOPF), [(1, -1, 0, 1, 1), (2, -1, 1, 0, 0)])

    def test_rising_order_and_both_signs(self):
        self.assertEqual(meets(FAR), [(7, -1, 3, 0, 0), (10 ** 30, 1, 3, 3, 2), (BIG, -1, 0, 2, 3)])

    def test_one_passage_alone(self):
        self.assertEqual(meets(([[-1], [1]], [(1, -1)])), [(1, -1, 1, 0, 0)])
        self.assertEqual(meets(([[1], [-1]], [(1, 1)])), [(1, 1, 0, 1, 1)])
        self.assertEqual(meets(([[1, -1]], [(1, 1)])), [(1, 1, 0, 0, 0)])

    def test_an_under_passage_at_the_last_place_leads_to_way_nought(self):
        drawing = ([[-1, 2, -3], [3, 1, -2]], [(1, 1), (2, -1), (3, 1)])
        self.assertEqual(meets(drawing), [(1, 1, 2, 0, 1), (2, -1, 1, 2, 2), (3, 1, 2, 1, 0)])

    def test_many_drawings(self):
        for drawing in many_drawings() + [numbered(40, 12), numbered(40, 1)]:
            told = meets(drawing)
            self.assertEqual(told, plain_meets(drawing))
            self.assertTrue(all(type(entry) is tuple for entry in told))
            self.assert_whole(told)


if __name__ == "__main__":
    unittest.main()
