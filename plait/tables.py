"""Tables of colours: the rules they keep, their duals, and tables made by a formula."""

from plait.errors import NoUnit
from plait.shared import MOST_COLOURS, refuse_above


def broken(table):
    wrong = breach_of_one(table)
    if wrong is None:
        wrong = breach_of_two(table)
    if wrong is None:
        wrong = breach_of_three(table)
    return wrong


def breach_of_one(table):
    for a, row in enumerate(table):
        if row[a] != a:
            return (1, a)
    return None


def breach_of_two(table):
    for b in range(len(table)):
        pair = first_same([row[b] for row in table])
        if pair is not None:
            return (2, b, pair[0], pair[1])
    return None


def first_same(column):
    for x, colour in enumerate(column):
        if colour in column[x + 1:]:
            return (x, column.index(colour, x + 1))
    return None


def breach_of_three(table):
    for a, row in enumerate(table):
        for b, colour in enumerate(row):
            for c in range(len(table)):
                if table[colour][c] != table[row[c]][table[b][c]]:
                    return (3, a, b, c)
    return None


def by(table, a, b):
    return table[a][b]


def back(table, a, b):
    return [row[b] for row in table].index(a)


def dual(table):
    size = len(table)
    return [[back(table, a, b) for b in range(size)] for a in range(size)]


def still(size):
    return scaled(size, 1)


def turns(size):
    return scaled(size, -1)


def scaled(size, factor):
    refuse_above(MOST_COLOURS, size)
    if common_divisor(factor, size) > 1:
        raise NoUnit(f"{factor} has a common divisor with {size}")
    return [[(factor * a + (1 - factor) * b) % size for b in range(size)] for a in range(size)]


def common_divisor(factor, size):
    divisor = size
    rest = factor % size
    while rest != 0:
        left = divisor % rest
        divisor = rest
        rest = left
    return divisor
