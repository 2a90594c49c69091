"""Drawings, tuples (walks, signs): their faults, their crossings and where these stand."""

from plait.errors import NoCrossing, NotADrawing

MOST_CROSSINGS = 40
MOST_WALKS = 12


def fault(drawing):
    walks = drawing[0]
    signs = drawing[1]
    standing = passages_of(walks)
    wrong = walk_fault(walks, signs, standing)
    if wrong is None:
        wrong = sign_fault(signs, standing)
    if wrong is None:
        wrong = many_fault(walks, signs)
    return wrong


def passages_of(walks):
    standing = {}
    for walk in walks:
        for passage in walk:
            standing[passage] = True
    return standing


def walk_fault(walks, signs, standing):
    # An entry that is wrong in itself still counts here: its own fault goes behind all those of walks.
    signed = dict([(entry[0], True) for entry in signs])
    earlier = {}
    for at, walk in enumerate(walks):
        for place, passage in enumerate(walk):
            alone = passage in earlier or -passage not in standing
            if passage == 0 or alone or abs(passage) not in signed:
                return ("walk", at, place)
            earlier[passage] = True
    return None


def sign_fault(signs, standing):
    ahead = 0
    for at, entry in enumerate(signs):
        if entry[0] <= ahead or entry[1] not in (1, -1) or entry[0] not in standing:
            return ("sign", at)
        ahead = entry[0]
    return None


def many_fault(walks, signs):
    # Asked behind the other faults, where each crossing has just one entry of signs.
    if len(signs) > MOST_CROSSINGS:
        return ("many", len(signs))
    if len(walks) > MOST_WALKS:
        return ("many", len(walks))
    return None


def checked(drawing):
    wrong = fault(drawing)
    if wrong is not None:
        raise NotADrawing(wrong)
    return ([list(walk) for walk in drawing[0]], list(drawing[1]))


def crossings(drawing):
    return [entry[0] for entry in drawing[1]]


def sign_of(drawing, crossing):
    for entry in drawing[1]:
        if entry[0] == crossing:
            return entry[1]
    raise NoCrossing(f"no crossing {crossing}")


def spot(drawing, passage):
    for at, walk in enumerate(drawing[0]):
        if passage in walk:
            return (at, walk.index(passage))
    raise NoCrossing(f"no crossing with the passage {passage}")
