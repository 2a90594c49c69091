"""Groups: the rules they keep, cycles, orders of things, and pairs."""

from plait.joins import paired
from plait.shared import MOST_COLOURS, each_once, refuse_above

MOST_THINGS = 4


def group_broken(group):
    wrong = breach_of_unit(group)
    if wrong is None:
        wrong = breach_of_inverse(group)
    if wrong is None:
        wrong = breach_of_product(group)
    return wrong


def breach_of_unit(group):
    for a, row in enumerate(group):
        if group[0][a] != a or row[0] != a:
            return (1, a)
    return None


def breach_of_inverse(group):
    for a, row in enumerate(group):
        if 0 not in row:
            return (2, a)
    return None


def breach_of_product(group):
    for a, row in enumerate(group):
        for b, found in enumerate(row):
            for c in range(len(group)):
                if group[found][c] != row[group[b][c]]:
                    return (3, a, b, c)
    return None


def cycle(size):
    refuse_above(MOST_COLOURS, size)
    return [[(a + b) % size for b in range(size)] for a in range(size)]


def orders(count):
    refuse_above(MOST_THINGS, count)
    lists = each_once(count)
    return [[lists.index(product(a, b)) for b in lists] for a in lists]


def product(a, b):
    return [b[place] for place in a]


def both(one, other):
    # A product of pairs goes part by part, just as by does in paired tables.
    return paired(one, other)


def inverse(group, a):
    return group[a].index(0)
