"""Tables made of other tables: side by side, in pairs, and with their colours moved."""

from plait.shared import MOST_COLOURS, refuse_above


def side(one, other):
    first = len(one)
    second = len(other)
    refuse_above(MOST_COLOURS, first + second)
    told = [row + [a] * second for a, row in enumerate(one)]
    for a, row in enumerate(other):
        told.append([first + a] * first + [first + colour for colour in row])
    return told


def paired(one, other):
    refuse_above(MOST_COLOURS, len(one) * len(other))
    told = []
    for above in one:
        for row in other:
            told.append(paired_row(above, row))
    return told


def paired_row(above, row):
    told = []
    for colour in above:
        told.extend([colour * len(row) + lower for lower in row])
    return told


def moved(table, places):
    told = [list(row) for row in table]
    for a, row in enumerate(table):
        for b, colour in enumerate(row):
            told[places[a]][places[b]] = places[colour]
    return told
