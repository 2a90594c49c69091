"""What the tests share: drawings to ask about, and the check of whose lists are whose (point 3)."""

import copy
import random
import unittest

BIG = 10 ** 60 - 1

TREFOIL = ([[1, -2, 3, -1, 2, -3]], [(1, 1), (2, 1), (3, 1)])
HOPF = ([[1, -2], [2, -1]], [(1, -1), (2, -1)])
FAR = (
    [[BIG, -7], [], [-BIG, 10 ** 30, 7, -(10 ** 30)]],
    [(7, -1), (10 ** 30, 1), (BIG, -1)],
)


def made(names, walk_count, seed=0):
    """A drawing with these crossings, their passages dealt out over so many walks."""
    source = random.Random(seed)
    walks = [[] for each in range(walk_count)]
    passages = list(names) + [-name for name in names]
    source.shuffle(passages)
    for passage in passages:
        source.choice(walks).append(passage)
    return (walks, [(name, source.choice((1, -1))) for name in sorted(names)])


def numbered(crossing_count, walk_count, seed=0):
    return made(range(1, crossing_count + 1), walk_count, seed)


def many_drawings():
    """Drawings of all sizes, walks without passages and names far apart among them."""
    told = [([], []), ([[]], []), ([[1, -1]], [(1, 1)]), ([[-1], [1]], [(1, -1)]), TREFOIL, HOPF, FAR]
    for seed in range(120):
        source = random.Random(seed)
        names = sorted(source.sample(range(1, 300), seed % 41))
        if seed % 3 == 0:
            names = [name * 10 ** 57 for name in names]
        told.append(made(names, 1 + seed % 12, seed))
    return told


def lists_in(value):
    if isinstance(value, list):
        yield value
    if isinstance(value, (list, tuple)):
        for part in value:
            yield from lists_in(part)


def spoil(value):
    """Change every list within the value."""
    for found in list(lists_in(value)):
        found.reverse()
        found.append(987654321)


class PlaitTest(unittest.TestCase):
    def assert_own_lists(self, function, *handed):
        """What is handed in stays as it was; what is told is new, within too, and the asker's own."""
        # A copy of its own, as it is spoilt below; one drawing handed in twice stays one.
        handed = copy.deepcopy(handed)
        before = copy.deepcopy(handed)
        told = function(*handed)
        self.assertEqual(handed, before)
        expected = copy.deepcopy(told)
        places = [id(found) for found in lists_in(told)]
        self.assertEqual(len(set(places)), len(places))
        self.assertFalse(set(places) & {id(found) for found in lists_in(handed)})
        spoil(told)
        self.assertEqual(handed, before)
        again = function(*handed)
        self.assertEqual(again, expected)
        spoil(handed)
        self.assertEqual(again, expected)
        self.assertEqual(function(*before), expected)

    def assert_refused(self, refusal, function, *handed):
        """The refusal comes, each time alike, and what was handed in stays as it was."""
        before = copy.deepcopy(handed)
        for each in range(2):
            with self.assertRaises(refusal) as caught:
                function(*handed)
            self.assertIs(caught.exception.__class__, refusal)
            self.assertEqual(handed, before)
        return caught.exception

    def assert_whole(self, value):
        """All numbers within are plain ints, none of them a truth."""
        if isinstance(value, (list, tuple)):
            for part in value:
                self.assert_whole(part)
        elif not isinstance(value, str):
            self.assertIs(type(value), int)
