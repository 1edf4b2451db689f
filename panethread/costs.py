"""What it costs to turn one plain row into another, by the longest threads of the two parted rows."""

from panethread.asks import asks_of
from panethread.changes import change_of, does, new_letter, new_row, old_letter, paid
from panethread.heaps import are_heaps, heaps_of
from panethread.kinds import need_span
from panethread.rows import parted
from panethread.threads import lengths


def beginning_costs(side, top):
    # A parted row has two signs for each letter, so every other length is one of whole letters.
    table = lengths(parted(side), parted(top))
    return [[i + j - table[2 * i][2 * j] for j in range(len(top) + 1)] for i in range(len(side) + 1)]


def cost(side, top):
    return beginning_costs(side, top)[-1][-1]


def last_change(table, old, new):
    # old and new are two beginnings, not both without letters; table has the costs of all of them.
    i = len(old)
    j = len(new)
    # Two equal last letters are kept by some cheapest list, so nothing is lost by keeping them.
    if i > 0 and j > 0 and (old[-1] == new[-1] or table[i - 1][j - 1] < table[i][j]):
        return change_of(old[-1], new[-1])
    if i > 0 and table[i - 1][j] < table[i][j]:
        return change_of(old[-1], "")
    return change_of("", new[-1])


def changes_of(side, top):
    table = beginning_costs(side, top)
    i = len(side)
    j = len(top)
    found = []
    while i > 0 or j > 0:
        change = last_change(table, side[:i], top[:j])
        found.append(change)
        i -= len(old_letter(change))
        j -= len(new_letter(change))
    return list(reversed(found))


class Costs:
    def __init__(self, side, top):
        self.held_asks = asks_of(parted(side), parted(top))
        self.held_side = side
        self.held_top = top

    def side(self):
        return self.held_side

    def top(self):
        return self.held_top

    def reckoned_cost(self, begin, end):
        return len(self.held_side) + end - begin - self.held_asks.stretch(2 * begin, 2 * end)

    def of(self, begin, end):
        need_span(begin, end, len(self.held_top))
        return self.reckoned_cost(begin, end)

    def row_of(self, begin):
        return [self.reckoned_cost(begin, end) for end in range(begin, len(self.held_top) + 1)]

    def rows_of(self):
        return [self.row_of(begin) for begin in range(len(self.held_top) + 1)]

    def end_of(self, end):
        return min([(self.reckoned_cost(begin, end), begin) for begin in range(end + 1)])

    def ends(self):
        return [self.end_of(end) for end in range(len(self.held_top) + 1)]

    def best(self):
        return min([(least[0], least[1], end) for end, least in enumerate(self.ends())])


def cost_paper(side, top):
    return (changes_of(side, top), heaps_of(parted(side), parted(top)))


def shows_cost(side, top, thing):
    long_side = parted(side)
    long_top = parted(top)
    if not isinstance(thing, tuple) or len(thing) != 2:
        return False
    if not does(side, thing[0]) or new_row(thing[0]) != top:
        return False
    if not are_heaps(long_side, long_top, thing[1]):
        return False
    return paid(thing[0]) + len(thing[1]) == len(side) + len(top)
