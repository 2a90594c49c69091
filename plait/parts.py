"""Parts of tables: what some colours grow into, closed parts, and orbits."""

from plait.errors import NotClosed


def grown(table, some):
    known = dict([(colour, True) for colour in some])
    steps = []
    step = step_beyond(table, known)
    while step is not None:
        steps.append(step)
        known[step[0]] = True
        step = step_beyond(table, known)
    return (sorted(known), steps)


def step_beyond(table, known):
    for a in known:
        for b in known:
            if table[a][b] not in known:
                return (table[a][b], a, b)
    return None


def part(table, members):
    places = dict([(member, place) for place, member in enumerate(members)])
    if len(members) == 0 or step_beyond(table, places) is not None:
        raise NotClosed("these colours are no table by themselves")
    return [[places[table[a][b]] for b in members] for a in members]


def orbits(table):
    # Each colour has the least colour that it was joined with so far.
    leasts = list(range(len(table)))
    for a, row in enumerate(table):
        for colour in row:
            leasts = joined(leasts, leasts[a], leasts[colour])
    return [colours_with(leasts, least) for least in sorted(set(leasts))]


def joined(leasts, one, other):
    low = min(one, other)
    return [low if least in (one, other) else least for least in leasts]


def colours_with(leasts, least):
    return [colour for colour, found in enumerate(leasts) if found == least]
