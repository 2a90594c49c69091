"""Tables made of groups: by conjugates, by cores, and of one class alone."""

from plait.groups import inverse
from plait.parts import part


def conjugates(group):
    size = len(group)
    return [[conjugate(group, a, b) for b in range(size)] for a in range(size)]


def conjugate(group, a, b):
    return group[group[inverse(group, b)][a]][b]


def cores(group):
    size = len(group)
    return [[core(group, a, b) for b in range(size)] for a in range(size)]


def core(group, a, b):
    return group[group[b][inverse(group, a)]][b]


def class_of(group, a):
    return sorted(set([conjugate(group, a, b) for b in range(len(group))]))


def class_table(group, a):
    return part(conjugates(group), class_of(group, a))
