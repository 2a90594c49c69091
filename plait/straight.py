"""Straight colourings: reckoned with rests by a prime, without trying."""

from plait.arcs import arc_count
from plait.colours import ties
from plait.errors import NoPrime, NoUnit

MOST_PRIME = 100000


def refuse_wrong(prime, factor):
    if not is_prime(prime):
        raise NoPrime(f"{prime} is no prime number of at most {MOST_PRIME}")
    if factor % prime == 0:
        raise NoUnit(f"{prime} divides {factor}")


def is_prime(number):
    if number < 2 or number > MOST_PRIME:
        return False
    divisor = 2
    while divisor * divisor <= number:
        if number % divisor == 0:
            return False
        divisor += 1
    return True


def equations(drawing, prime, factor):
    refuse_wrong(prime, factor)
    count = arc_count(drawing)
    told = []
    for start, over, end in ties(drawing):
        numbers = [0] * count
        # One arc may stand at several places of a crossing, so the numbers are added up.
        numbers[start] += factor
        numbers[over] += 1 - factor
        numbers[end] -= 1
        told.append([number % prime for number in numbers])
    return told


def keeps(drawing, prime, factor, colours):
    asked = equations(drawing, prime, factor)
    return all([summed(equation, colours) % prime == 0 for equation in asked])


def summed(numbers, colours):
    return sum([number * colour for number, colour in zip(numbers, colours)])


def solved(drawing, prime, factor):
    count = arc_count(drawing)
    # Behind its numbers each row carries the factors of the equations that it is the sum of.
    rows = led_rows(with_factors(equations(drawing, prime, factor)), count, prime)
    tied = dict(rows)
    frees = [arc for arc in range(count) if arc not in tied]
    basis = [colouring_of(free, tied, count, prime) for free in frees]
    return (frees, basis, [(arc, row[count:]) for arc, row in rows])


def with_factors(rows):
    return [row + unit(len(rows), at) for at, row in enumerate(rows)]


def unit(count, at):
    numbers = [0] * count
    numbers[at] = 1
    return numbers


def led_rows(rows, count, prime):
    # Arc by arc one row is made its lead, 1 there and 0 ahead, and taken off all others.
    told = []
    waiting = rows
    for arc in range(count):
        leads = [row for row in waiting if row[arc] != 0]
        if len(leads) > 0:
            lead = times(leads[0], inverse_rest(leads[0][arc], prime), prime)
            # The row that became the lead is 0 throughout now: it leads nowhere any more.
            waiting = [cleared(row, lead, arc, prime) for row in waiting]
            told = [(other, cleared(row, lead, arc, prime)) for other, row in told] + [(arc, lead)]
    return told


def times(row, number, prime):
    return [number * entry % prime for entry in row]


def cleared(row, lead, arc, prime):
    return [(entry - row[arc] * other) % prime for entry, other in zip(row, lead)]


def inverse_rest(number, prime):
    # By a prime the inverse is the number to the power of prime - 2.
    told = 1
    square = number
    left = prime - 2
    while left > 0:
        if left % 2 == 1:
            told = told * square % prime
        square = square * square % prime
        left //= 2
    return told


def colouring_of(free, tied, count, prime):
    colours = unit(count, free)
    for arc, row in tied.items():
        colours[arc] = -row[free] % prime
    return colours


def straight_many(drawing, prime, factor):
    number = 1
    for free in solved(drawing, prime, factor)[0]:
        number *= prime
    return number
