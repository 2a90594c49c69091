"""Shapes: drawings turned, flipped, walked backward and laid beside one another."""

from plait.drawings import MOST_CROSSINGS, MOST_WALKS, crossings
from plait.errors import TooBig


def turned(drawing, walk, by):
    walks = [list(passages) for passages in drawing[0]]
    walks[walk] = begun_later(walks[walk], by)
    return (walks, list(drawing[1]))


def begun_later(passages, by):
    if len(passages) == 0:
        return []
    start = by % len(passages)
    return passages[start:] + passages[:start]


def flipped(drawing):
    walks = [list(walk) for walk in drawing[0]]
    return (walks, [(crossing, -sign) for crossing, sign in drawing[1]])


def backward(drawing):
    walks = [list(reversed(walk)) for walk in drawing[0]]
    return (walks, list(drawing[1]))


def beside(one, other):
    if len(one[1]) + len(other[1]) > MOST_CROSSINGS:
        raise TooBig(f"more than {MOST_CROSSINGS} crossings")
    if len(one[0]) + len(other[0]) > MOST_WALKS:
        raise TooBig(f"more than {MOST_WALKS} walks")
    by = max(crossings(one), default=0)
    walks = [list(walk) for walk in one[0]] + [raised(walk, by) for walk in other[0]]
    signs = list(one[1]) + [(crossing + by, sign) for crossing, sign in other[1]]
    return (walks, signs)


def raised(walk, by):
    return [passage + by if passage > 0 else passage - by for passage in walk]
