"""Tables that are alike, and papers that show that two are not."""

from plait.every import tables
from plait.shared import all_colours, each_once, refuse_above

MOST_TO_COMPARE = 6


def like(one, other):
    refuse_big(one, other)
    return searched(one, other)[0]


def unlike(one, other):
    refuse_big(one, other)
    found = searched(one, other)
    if found[0] is not None:
        return None
    return found[1]


def refuse_big(one, other):
    refuse_above(MOST_TO_COMPARE, max(len(one), len(other)))


def searched(one, other):
    paper = []
    # Of unlike sizes no list is tried, and the paper without tuples will do.
    waiting = [()] if len(one) == len(other) else []
    while len(waiting) > 0:
        images = waiting.pop()
        breach = first_breach(one, other, images)
        if breach is not None:
            paper.append((images, breach[0], breach[1]))
        elif len(images) == len(one):
            return (list(images), paper)
        else:
            waiting.extend(longer_images(images, len(other)))
    return (None, paper)


def longer_images(images, size):
    # Falling, as the last one is taken up first: so lists are tried in list order.
    return [images + (colour,) for colour in range(size - 1, -1, -1) if colour not in images]


def first_breach(one, other, images):
    for a in range(len(images)):
        for b in range(len(images)):
            if equation_broken(one, other, images, a, b):
                return (a, b)
    return None


def equation_broken(one, other, images, a, b):
    result = one[a][b]
    return result < len(images) and other[images[a]][images[b]] != images[result]


def kinds(size):
    told = []
    for table in tables(size):
        if all([like(kind, table) is None for kind in told]):
            told.append(table)
    return told


def shuts(one, other, paper):
    refuse_big(one, other)
    if len(one) != len(other):
        return True
    shut = dict([(entry[0], True) for entry in paper if breaks(one, other, entry)])
    return all([begins_with_one(order, shut) for order in each_once(len(one))])


def breaks(one, other, entry):
    images = entry[0]
    a = entry[1]
    b = entry[2]
    if len(set(images)) != len(images) or not all_colours(images, len(other)):
        return False
    return is_place(images, a) and is_place(images, b) and equation_broken(one, other, images, a, b)


def is_place(images, number):
    return 0 <= number < len(images)


def begins_with_one(order, shut):
    return any([tuple(order[:length]) in shut for length in range(len(order) + 1)])


def keeping(one, other, images):
    if len(images) != len(one) or not all_colours(images, len(other)):
        return False
    return first_breach(one, other, images) is None
