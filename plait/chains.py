"""Chains of moves: where they lead, which moves lead back, and colourings carried along."""

from plait.carrying import carried
from plait.colours import refuse_unfit
from plait.errors import NoChain
from plait.moves import done, legal, undone


def led(drawing, moves):
    return stages(drawing, moves)[-1]


def stages(drawing, moves):
    told = [([list(walk) for walk in drawing[0]], list(drawing[1]))]
    for at, move in enumerate(moves):
        if not legal(told[-1], move):
            raise NoChain(at)
        told.append(done(told[-1], move))
    return told


def led_back(drawing, moves):
    told = [undone(stage, move) for stage, move in zip(stages(drawing, moves), moves)]
    return list(reversed(told))


def led_along(drawing, moves, table, colours):
    ahead = stages(drawing, moves)
    refuse_unfit(drawing, table, colours)
    told = list(colours)
    for stage, move in zip(ahead, moves):
        told = carried(stage, move, table, told)
    return told
