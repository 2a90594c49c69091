"""All good tables of a small size."""

from plait.shared import each_once, refuse_above
from plait.tables import broken

MOST_OF_ALL = 4


def tables(size):
    refuse_above(MOST_OF_ALL, size)
    tried = [table_of_columns(columns) for columns in all_columns(size)]
    return sorted([table for table in tried if broken(table) is None])


def all_columns(size):
    # By the first two rules a column is an order of the colours in which its own colour stays: few are left to try.
    lists = each_once(size)
    told = [[]]
    for b in range(size):
        told = longer_by_columns(told, [order for order in lists if order[b] == b])
    return told


def longer_by_columns(choices, columns):
    longer = []
    for ahead in choices:
        longer.extend([ahead + [column] for column in columns])
    return longer


def table_of_columns(columns):
    return [[column[a] for column in columns] for a in range(len(columns))]
