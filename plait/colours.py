"""Colourings of drawings by tables, and colours told way by way."""

from plait.arcs import arc_count, arcs, meets
from plait.errors import NoFit, TooMuch
from plait.shared import all_colours

MOST_LISTS = 65536


def fits(drawing, table, colours):
    if len(colours) != arc_count(drawing) or not all_colours(colours, len(table)):
        return False
    return all_held(table, colours, ties(drawing))


def refuse_unfit(drawing, table, colours):
    if not fits(drawing, table, colours):
        raise NoFit("these colours are no colouring of the drawing")


def ties(drawing):
    # A tie (start, over, end) asks that start by over is end; a crossing of the sign -1 is tied against its walk.
    told = []
    for crossing, sign, over, inward, outward in meets(drawing):
        told.append((inward, over, outward) if sign == 1 else (outward, over, inward))
    return told


def all_held(table, colours, asked):
    return all([table[colours[start]][colours[over]] == colours[end] for start, over, end in asked])


def colourings(drawing, table):
    count = arc_count(drawing)
    refuse_too_much(len(table), count)
    asked = ties(drawing)
    told = [[]]
    for arc in range(count):
        # Each tie is asked as soon as its last arc has a colour, so few lists grow that are no colourings.
        told = longer_by_arc(told, table, [tie for tie in asked if max(tie) == arc])
    return told


def refuse_too_much(size, count):
    lists = 1
    for arc in range(count):
        lists *= size
    if lists > MOST_LISTS:
        raise TooMuch(f"more than {MOST_LISTS} lists to try")


def longer_by_arc(lists, table, asked):
    longer = []
    for ahead in lists:
        for colour in range(len(table)):
            tried = ahead + [colour]
            if all_held(table, tried, asked):
                longer.append(tried)
    return longer


def many(drawing, table):
    return len(colourings(drawing, table))


def spread(drawing, colours):
    return [[colours[arc] for arc in ways] for ways in arcs(drawing)]


def gathered(drawing, ways):
    found = {}
    for numbers, colours in zip(arcs(drawing), ways):
        for arc, colour in zip(numbers, colours):
            if found.setdefault(arc, colour) != colour:
                raise NoFit(f"two ways of the arc {arc} have unlike colours")
    return [found[arc] for arc in range(len(found))]
