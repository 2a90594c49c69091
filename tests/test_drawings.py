"""Points 6, 7, 8, and 2, 3, 4 for plait/drawings.py."""

import copy
import itertools
import random
import unittest

from plait.drawings import checked, crossings, fault, sign_of, spot
from plait.errors import NoCrossing, NotADrawing
from tests.helpers import BIG, FAR, HOPF, TREFOIL, PlaitTest, made, many_drawings, numbered

# Three walks, and room between the names.
THREE = (
    [[10, -20, 30, -40], [40, -10, 50], [-50, 20, 60, -30, -60]],
    [(10, 1), (20, -1), (30, 1), (40, 1), (50, -1), (60, 1)],
)
PLACES_OF_THREE = ((0, 0), (0, 2), (0, 4), (1, 0), (1, 1), (1, 3), (2, 0), (2, 2), (2, 5))


def with_passages(drawing, walk, place, *passages):
    walks, signs = copy.deepcopy(drawing)
    walks[walk][place:place] = passages
    return (walks, signs)


def with_entry(drawing, at, entry):
    walks, signs = copy.deepcopy(drawing)
    signs.insert(at, entry)
    return (walks, signs)


def with_sign(drawing, at, sign):
    walks, signs = copy.deepcopy(drawing)
    signs[at] = (signs[at][0], sign)
    return (walks, signs)


def without_entry(drawing, crossing):
    walks, signs = copy.deepcopy(drawing)
    return (walks, [entry for entry in signs if entry[0] != crossing])


def plain_fault(drawing):
    """Point 7 word by word, slowly."""
    walks, signs = drawing
    places = [(w, p) for w in range(len(walks)) for p in range(len(walks[w]))]
    numbers = [walks[w][p] for w, p in places]
    for at, number in enumerate(numbers):
        unsigned = all(entry[0] != abs(number) for entry in signs)
        if number == 0 or number in numbers[:at] or -number not in numbers or unsigned:
            return ("walk",) + places[at]
    for at, (crossing, sign) in enumerate(signs):
        if at == 0 and crossing <= 0 or at > 0 and crossing <= signs[at - 1][0]:
            return ("sign", at)
        if sign not in (1, -1) or crossing not in numbers and -crossing not in numbers:
            return ("sign", at)
    count = len({abs(number) for number in numbers})
    if count > 40:
        return ("many", count)
    return ("many", len(walks)) if len(walks) > 12 else None


def mangled(seed):
    """A drawing with some things done to it, or none."""
    source = random.Random(seed)
    walks, signs = numbered(source.randrange(6), source.randrange(1, 4), seed)
    for each in range(source.randrange(4)):
        walk = source.choice(walks)
        number = source.randrange(-7, 8)
        what = source.randrange(7)
        if what == 0:
            walk.insert(source.randrange(len(walk) + 1), number)
        elif what == 1 and walk:
            walk[source.randrange(len(walk))] = number
        elif what == 2 and walk:
            walk.pop(source.randrange(len(walk)))
        elif what == 3:
            signs.insert(source.randrange(len(signs) + 1), (number, source.choice((1, -1, 0, 2))))
        elif what == 4 and signs:
            signs.pop(source.randrange(len(signs)))
        elif what == 5 and signs:
            at = source.randrange(len(signs))
            signs[at] = (signs[at][0], number)
        elif what == 6:
            source.shuffle(signs)
    return (walks, signs)


class FaultTest(PlaitTest):
    def assert_fault(self, drawing, expected):
        """fault tells it, checked refuses with it, and nothing handed in changes."""
        before = copy.deepcopy(drawing)
        for each in range(2):
            told = fault(drawing)
            self.assertEqual(told, expected)
            self.assertIs(type(told), tuple)
            self.assert_whole(told)
        self.assertEqual(drawing, before)
        refusal = self.assert_refused(NotADrawing, checked, drawing)
        self.assertEqual(refusal.fault, expected)


class Good(PlaitTest):
    def test_all_numbers_of_crossings_and_walks(self):
        for crossing_count in range(41):
            for walk_count in range(0 if crossing_count == 0 else 1, 13):
                drawing = numbered(crossing_count, walk_count, 7 * crossing_count + walk_count)
                self.assertIsNone(fault(drawing))
                self.assertEqual(checked(drawing), drawing)

    def test_walks_without_passages_and_no_walks(self):
        self.assertIsNone(fault(([], [])))
        self.assertEqual(checked(([], [])), ([], []))
        for walk_count in range(1, 13):
            self.assertIsNone(fault(([[] for each in range(walk_count)], [])))
        self.assertIsNone(fault(([[], [1], [], [-1], []], [(1, -1)])))

    def test_names_far_apart_and_many_drawings(self):
        for drawing in many_drawings() + [THREE]:
            self.assertIsNone(fault(drawing))
            self.assertEqual(checked(drawing), drawing)

    def test_checked_tells_new_lists(self):
        for drawing in many_drawings():
            self.assert_own_lists(checked, drawing)
            self.assert_own_lists(fault, drawing)

    def test_what_was_refused_is_taken_once_it_is_good(self):
        drawing = ([[1, -1, 2]], [(1, 1), (2, 1)])
        self.assert_refused(NotADrawing, checked, drawing)
        drawing[0][0].append(-2)
        self.assertEqual(checked(drawing), ([[1, -1, 2, -2]], [(1, 1), (2, 1)]))
        drawing[1].append((2, 1))
        self.assertEqual(self.assert_refused(NotADrawing, checked, drawing).fault, ("sign", 2))
        drawing[1].pop()
        self.assertIsNone(fault(drawing))


class WalkFaults(FaultTest):
    def test_nought(self):
        for walk, place in PLACES_OF_THREE:
            drawing = with_passages(THREE, walk, place, 0)
            self.assert_fault(drawing, ("walk", walk, place))
            self.assert_fault(with_entry(drawing, 0, (0, 1)), ("walk", walk, place))

    def test_the_same_number_earlier(self):
        for walk, place in PLACES_OF_THREE:
            ahead = [number for each in THREE[0][:walk] for number in each] + THREE[0][walk][:place]
            for number in ahead:
                self.assert_fault(with_passages(THREE, walk, place, number), ("walk", walk, place))

    def test_the_same_number_twice_in_the_first_walk(self):
        self.assert_fault(([[1, 1, -1]], [(1, 1)]), ("walk", 0, 1))
        self.assert_fault(([[-1, 1, -1]], [(1, 1)]), ("walk", 0, 2))
        self.assert_fault(([[-1, 1], [1]], [(1, 1)]), ("walk", 1, 0))

    def test_its_opposite_nowhere(self):
        for walk, place in PLACES_OF_THREE:
            for number in (25, -25):
                drawing = with_entry(THREE, 2, (25, 1))
                self.assert_fault(with_passages(drawing, walk, place, number), ("walk", walk, place))

    def test_no_entry_of_signs(self):
        for crossing, walk, place in ((10, 0, 0), (20, 0, 1), (30, 0, 2), (40, 0, 3), (50, 1, 2), (60, 2, 2)):
            drawing = without_entry(THREE, crossing)
            self.assert_fault(drawing, ("walk", walk, place))
            # An entry that begins with the opposite number is none of the crossing's.
            self.assert_fault(with_entry(drawing, 0, (-crossing, 1)), ("walk", walk, place))
        for walk, place in PLACES_OF_THREE:
            for number in (25, -25):
                drawing = with_passages(THREE, walk, place, number, -number)
                self.assert_fault(drawing, ("walk", walk, place))

    def test_the_last_passage_of_all(self):
        self.assert_fault(([[1, -1], [2, -2, 1]], [(1, 1), (2, 1)]), ("walk", 1, 2))
        self.assert_fault(([[1, -1], [2, -2, 3]], [(1, 1), (2, 1), (3, 1)]), ("walk", 1, 2))
        self.assert_fault(([[1, -1], [2, -2, 0]], [(1, 1), (2, 1)]), ("walk", 1, 2))
        self.assert_fault(([[], [], [5]], []), ("walk", 2, 0))

    def test_numbers_of_sixty_figures(self):
        self.assert_fault(([[BIG, -BIG, BIG]], [(BIG, 1)]), ("walk", 0, 2))
        self.assert_fault(([[-BIG, BIG - 1]], [(BIG, 1)]), ("walk", 0, 0))
        self.assert_fault(([[-BIG, BIG]], [(BIG - 1, 1)]), ("walk", 0, 0))

    def test_long_lists(self):
        names = list(range(1, 4051))
        walks = [[] for each in range(90)]
        for at, passage in enumerate(names + [-name for name in names]):
            walks[at // 90].append(passage)
        self.assert_fault((walks, [(name, 1) for name in names[:90]]), ("walk", 1, 0))
        self.assert_fault(([[1, -1]] * 90, [(1, 1)]), ("walk", 1, 0))


class SignFaults(FaultTest):
    def test_the_first_one_is_not_above_nought(self):
        for crossing in (0, -1, -10, -BIG):
            self.assert_fault(with_entry(THREE, 0, (crossing, 1)), ("sign", 0))
            self.assert_fault(([], [(crossing, 1)]), ("sign", 0))

    def test_not_greater_than_the_one_ahead(self):
        for at in range(1, 7):
            for crossing, sign in THREE[1][:at]:
                self.assert_fault(with_entry(THREE, at, (crossing, sign)), ("sign", at))
            self.assert_fault(with_entry(THREE, at, (-THREE[1][0][0], 1)), ("sign", at))

    def test_two_entries_in_the_other_order(self):
        for at in range(5):
            walks, signs = copy.deepcopy(THREE)
            signs[at:at + 2] = [signs[at + 1], signs[at]]
            self.assert_fault((walks, signs), ("sign", at + 1))

    def test_a_sign_neither_one_nor_minus_one(self):
        for at in range(6):
            for sign in (0, 2, -2, 10, BIG, -BIG):
                self.assert_fault(with_sign(THREE, at, sign), ("sign", at))

    def test_its_crossing_nowhere_in_the_walks(self):
        for at in range(7):
            self.assert_fault(with_entry(THREE, at, (10 * at + 5, 1)), ("sign", at))
        self.assert_fault(with_entry(THREE, 6, (BIG, -1)), ("sign", 6))
        self.assert_fault(([[]], [(1, 1)]), ("sign", 0))

    def test_a_wrong_entry_still_counts_for_its_passages(self):
        self.assert_fault(([[1, -1]], [(1, 0)]), ("sign", 0))
        self.assert_fault(([[1, -1, 2, -2]], [(2, 1), (1, 7)]), ("sign", 1))
        self.assert_fault(([[1, -1, 2, -2]], [(-5, 9), (2, 1), (1, 1)]), ("sign", 0))


class FaultsTogether(FaultTest):
    def test_walks_go_ahead_of_signs(self):
        for walk, place in PLACES_OF_THREE:
            drawing = with_sign(with_passages(THREE, walk, place, 0), 0, 3)
            self.assert_fault(drawing, ("walk", walk, place))
            self.assert_fault(with_entry(drawing, 0, (0, 0)), ("walk", walk, place))

    def test_the_first_of_two_of_one_sort(self):
        drawing = with_passages(THREE, 2, 0, 0)
        self.assert_fault(drawing, ("walk", 2, 0))
        self.assert_fault(with_passages(drawing, 1, 1, 40), ("walk", 1, 1))
        self.assert_fault(with_passages(with_passages(drawing, 1, 1, 40), 0, 3, 9), ("walk", 0, 3))
        drawing = with_sign(THREE, 4, 0)
        self.assert_fault(drawing, ("sign", 4))
        self.assert_fault(with_entry(drawing, 2, (25, 1)), ("sign", 2))
        self.assert_fault(with_entry(with_entry(drawing, 2, (25, 1)), 1, (10, 1)), ("sign", 1))

    def test_many(self):
        self.assertIsNone(fault(numbered(40, 12)))
        for walk_count in (1, 12):
            self.assert_fault(numbered(41, walk_count), ("many", 41))
            self.assert_fault(numbered(45, walk_count), ("many", 45))
        for crossing_count in (0, 1, 40):
            self.assert_fault(numbered(crossing_count, 13), ("many", 13))
            self.assert_fault(numbered(crossing_count, 90), ("many", 90))
        self.assert_fault(numbered(41, 13), ("many", 41))
        self.assert_fault(numbered(90, 90), ("many", 90))
        self.assert_fault(numbered(41, 50), ("many", 41))

    def test_both_go_ahead_of_many(self):
        for drawing in (numbered(41, 1), numbered(41, 13), numbered(40, 13)):
            last = len(drawing[1]) - 1
            self.assert_fault(with_sign(drawing, last, 0), ("sign", last))
            self.assert_fault(with_passages(with_sign(drawing, last, 0), 0, 0, 0), ("walk", 0, 0))
            self.assert_fault(with_passages(drawing, 0, 0, 0), ("walk", 0, 0))

    def test_mangled_drawings(self):
        told = set()
        for seed in range(4000):
            drawing = mangled(seed)
            expected = plain_fault(drawing)
            self.assertEqual(fault(drawing), expected, drawing)
            told.add(expected[0] if expected else None)
        self.assertEqual(told, {None, "walk", "sign"})

    def test_all_small_ones(self):
        entries = list(itertools.product((-1, 0, 1, 2), (1, 0)))
        lists = [list(two) for size in range(3) for two in itertools.product(entries, repeat=size)]
        for size in range(4):
            for walk in itertools.product((-2, -1, 0, 1, 2), repeat=size):
                for signs in lists:
                    drawing = ([list(walk[:1]), list(walk[1:])], signs)
                    self.assertEqual(fault(drawing), plain_fault(drawing), drawing)


class Crossings(PlaitTest):
    def test_crossings_rise(self):
        self.assertEqual(crossings(([], [])), [])
        self.assertEqual(crossings(([[], []], [])), [])
        self.assertEqual(crossings(TREFOIL), [1, 2, 3])
        self.assertEqual(crossings(FAR), [7, 10 ** 30, BIG])
        for drawing in many_drawings():
            told = crossings(drawing)
            self.assertEqual(told, sorted(n for walk in drawing[0] for n in walk if n > 0))
            self.assert_whole(told)

    def test_sign_of(self):
        self.assertEqual([sign_of(FAR, name) for name in (BIG, 7, 10 ** 30)], [-1, -1, 1])
        for drawing in many_drawings():
            self.assertEqual([(name, sign_of(drawing, name)) for name in crossings(drawing)], drawing[1])

    def test_spot(self):
        self.assertEqual([spot(HOPF, passage) for passage in (1, -2, 2, -1)], [(0, 0), (0, 1), (1, 0), (1, 1)])
        self.assertEqual(spot(FAR, -(10 ** 30)), (2, 3))
        for drawing in many_drawings():
            for at, walk in enumerate(drawing[0]):
                for place, passage in enumerate(walk):
                    told = spot(drawing, passage)
                    self.assertEqual(told, (at, place))
                    self.assertIs(type(told), tuple)
                    self.assert_whole(told)

    def test_no_crossing_for_nought_and_below(self):
        for drawing in (([], []), ([[]], []), TREFOIL, HOPF, FAR):
            for number in (0, -1, -2, -7, -BIG, -(10 ** 30)):
                self.assert_refused(NoCrossing, sign_of, drawing, number)
            for number in (0, -4, -8, -BIG + 1, 4, 8, BIG - 1):
                self.assert_refused(NoCrossing, spot, drawing, number)

    def test_no_crossing_for_neighbours(self):
        drawing = made([5, 9, 10 ** 20, 10 ** 59], 3)
        for name in (5, 9, 10 ** 20, 10 ** 59):
            for near in (name - 1, name + 1):
                self.assert_refused(NoCrossing, sign_of, drawing, near)
                self.assert_refused(NoCrossing, spot, drawing, near)
                self.assert_refused(NoCrossing, spot, drawing, -near)

    def test_refused_once_and_taken_then(self):
        drawing = ([[1, -1]], [(1, 1)])
        self.assert_refused(NoCrossing, sign_of, drawing, 2)
        self.assert_refused(NoCrossing, spot, drawing, -2)
        drawing[0].append([2, -2])
        drawing[1].append((2, -1))
        self.assertEqual((sign_of(drawing, 2), spot(drawing, -2)), (-1, (1, 1)))

    def test_own_lists(self):
        for drawing in many_drawings():
            self.assert_own_lists(crossings, drawing)
        for name in (7, 10 ** 30, BIG):
            self.assert_own_lists(sign_of, FAR, name)
            self.assert_own_lists(spot, FAR, name)
            self.assert_own_lists(spot, FAR, -name)


if __name__ == "__main__":
    unittest.main()
