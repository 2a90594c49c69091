"""What a desk makes and tells: the functions that its lines ask."""

from plait.alike import like
from plait.arcs import arc_count
from plait.colours import colourings, many
from plait.joins import paired, side
from plait.marks import parted
from plait.shapes import backward, beside, flipped
from plait.straight import solved
from plait.tables import dual, scaled, still, turns
from plait.texts import show_colours, show_move, show_table


def table_asked(word, values):
    if word == "still":
        return still(values[1])
    if word == "turns":
        return turns(values[1])
    if word == "scaled":
        return scaled(values[1], values[2])
    if word == "dual":
        return dual(values[1])
    if word == "side":
        return side(values[1], values[2])
    if word == "paired":
        return paired(values[1], values[2])
    return values[1]


def drawing_asked(word, values):
    if word == "flipped":
        return flipped(values[1])
    if word == "backward":
        return backward(values[1])
    if word == "beside":
        return beside(values[1], values[2])
    return values[1]


def sheet_lines(word, values):
    sheet = values[0]
    if word == "moves":
        return [show_move(move) for move in sheet.moves_that_stand()]
    if word == "down":
        return [show_move(move) for move in sheet.take_down()]
    if word == "move":
        sheet.do_move(values[1])
    elif word == "undo":
        if len(sheet.standing) == 0:
            return ["no undo"]
        sheet.undo()
    else:
        if len(sheet.taken_back) == 0:
            return ["no redo"]
        sheet.redo()
    return ["ok"]


def told_lines(word, values):
    if word == "arcs":
        return [str(arc_count(values[0]))]
    if word == "many":
        return [str(many(values[0], values[1]))]
    if word == "colours":
        return [show_colours(colours) for colours in colourings(values[0], values[1])]
    if word == "straight":
        frees = solved(values[0], values[1], values[2])[0]
        return [str(len(frees))]
    if word == "part":
        return parting_lines(parted(values[0], values[1], values[2]))
    return liking_lines(like(values[0], values[1]))


def parting_lines(found):
    if found is None:
        return ["alike"]
    return [show_table(found[0]), show_colours(found[1:])]


def liking_lines(found):
    if found is None:
        return ["unlike"]
    return [show_colours(found)]
