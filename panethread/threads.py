"""Threads of a side and a top: the lengths of the longest ones, one of these, and what is a thread."""

from panethread.errors import NoThread
from panethread.kinds import is_pair
from panethread.rows import need_rows


def lengths_below(above, sign, top):
    row = [0]
    for column, other in enumerate(top):
        length = max(above[column + 1], row[column])
        if sign == other:
            length = max(length, above[column] + 1)
        row.append(length)
    return row


def lengths(side, top):
    need_rows(side, top)
    table = [[0] * (len(top) + 1)]
    for sign in side:
        table.append(lengths_below(table[-1], sign, top))
    return table


def longest(side, top):
    return lengths(side, top)[-1][-1]


def thread_of(side, top):
    table = lengths(side, top)
    i = len(side)
    j = len(top)
    found = []
    while i > 0 and j > 0:
        # Two equal last signs always end some longest thread, so nothing is lost by taking them.
        if side[i - 1] == top[j - 1]:
            i -= 1
            j -= 1
            found.append((i, j))
        elif table[i - 1][j] == table[i][j]:
            i -= 1
        else:
            j -= 1
    return list(reversed(found))


def is_match(side, top, thing):
    if not is_pair(thing):
        return False
    i = thing[0]
    j = thing[1]
    return 0 <= i < len(side) and 0 <= j < len(top) and side[i] == top[j]


def is_ahead(pair, other):
    return pair[0] < other[0] and pair[1] < other[1]


def is_thread(side, top, thing):
    need_rows(side, top)
    if not isinstance(thing, list) or not all([is_match(side, top, pair) for pair in thing]):
        return False
    return all([is_ahead(thing[place], thing[place + 1]) for place in range(len(thing) - 1)])


def said(side, top, thread):
    if not is_thread(side, top, thread):
        raise NoThread(thread)
    return "".join([side[pair[0]] for pair in thread])
