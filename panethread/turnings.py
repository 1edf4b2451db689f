"""Turnings: lines told by their begins and ends, counted, and got back from their counts."""

from panethread.errors import NoCounts, NoTurning
from panethread.kinds import MOST_LINES, is_number, is_within, need_place


def is_turning(thing):
    if not isinstance(thing, (list, tuple)) or len(thing) > MOST_LINES:
        return False
    seen = {}
    for end in thing:
        if not is_within(end, 0, len(thing) - 1) or end in seen:
            return False
        seen[end] = True
    return True


def need_turning(thing):
    if not is_turning(thing):
        raise NoTurning(thing)


def straight(many):
    need_place(many, 0, MOST_LINES)
    return list(range(many))


def opposite(turning):
    need_turning(turning)
    begins = [0] * len(turning)
    for begin, end in enumerate(turning):
        begins[end] = begin
    return begins


def about(turning):
    need_turning(turning)
    last = len(turning) - 1
    return [last - end for end in reversed(turning)]


def counted(turning, begin, end):
    need_turning(turning)
    need_place(begin, 0, len(turning))
    need_place(end, 0, len(turning))
    return len([place for place in turning[begin:] if place < end])


def counts(turning):
    need_turning(turning)
    many = len(turning)
    table = [[0] * (many + 1)]
    # Built from the last begin upwards, since each list is the one behind it and one line more.
    for line_end in reversed(turning):
        behind = table[-1]
        table.append([behind[end] + (1 if line_end < end else 0) for end in range(many + 1)])
    return list(reversed(table))


def is_square(thing):
    if not isinstance(thing, list) or not 1 <= len(thing) <= MOST_LINES + 1:
        return False
    for row in thing:
        if not isinstance(row, list) or len(row) != len(thing):
            return False
        if not all([is_number(number) for number in row]):
            return False
    return True


def from_counts(table):
    if not is_square(table):
        raise NoCounts(table)
    turning = []
    for begin in range(len(table) - 1):
        # Leaving out line begin changes the count of just those ends that lie behind its own one.
        same = [end for end in range(len(table)) if table[begin][end] == table[begin + 1][end]]
        turning.append(len(same) - 1)
    if not is_turning(turning) or counts(turning) != table:
        raise NoCounts(table)
    return turning


def crossings(turning):
    need_turning(turning)
    found = []
    for x in range(len(turning)):
        for y in range(x + 1, len(turning)):
            if turning[x] > turning[y]:
                found.append((x, y))
    return found
