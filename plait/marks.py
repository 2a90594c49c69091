"""Marks: numbers of colourings by all tables of small sizes, and drawings parted by them."""

from plait.alike import kinds
from plait.arcs import arc_count
from plait.colours import many, refuse_too_much
from plait.every import MOST_OF_ALL, tables
from plait.shared import refuse_above


def mark(drawing, size):
    refuse_size(size, [drawing])
    told = []
    for each in range(1, size + 1):
        told.extend([many(drawing, table) for table in kinds(each)])
    return told


def refuse_size(size, drawings):
    refuse_above(MOST_OF_ALL, size)
    for drawing in drawings:
        refuse_too_much(size, arc_count(drawing))


def parted(one, other, size):
    refuse_size(size, [one, other])
    for each in range(1, size + 1):
        for table in tables(each):
            first = many(one, table)
            second = many(other, table)
            if first != second:
                return (table, first, second)
    return None
