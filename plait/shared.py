"""What several files need: the bounds of sizes, colours, and the lists with each number once."""

from plait.errors import TooBig

MOST_COLOURS = 24


def refuse_above(most, size):
    if size > most:
        raise TooBig(f"{size} is above {most}")


def all_colours(numbers, size):
    return all([0 <= number < size for number in numbers])


def each_once(count):
    told = [[]]
    for place in range(count):
        told = longer_by_one(told, count)
    return told


def longer_by_one(lists, count):
    longer = []
    for ahead in lists:
        for number in range(count):
            if number not in ahead:
                longer.append(ahead + [number])
    return longer
