"""Boards of a side and a top, and the lines that go over their cells."""

from panethread.errors import NoCells
from panethread.kinds import MOST_SIGNS, need_place
from panethread.rows import need_rows

CROSS = "x"
TOUCH = "o"


def lines_above(many, far):
    return [many + column for column in range(far)]


def signs_of_row(sign, top, left, above):
    signs = []
    for column, other in enumerate(top):
        if sign == other or left > above[column]:
            signs.append(TOUCH)
            left = above[column]
        else:
            signs.append(CROSS)
    return "".join(signs)


def over_row(signs, left, above):
    coming = []
    below = []
    for sign, line in zip(signs, above):
        coming.append((left, line))
        if sign == TOUCH:
            below.append(left)
            left = line
        else:
            below.append(line)
    return (coming, below, left)


def cells_of(side, top):
    above = lines_above(len(side), len(top))
    cells = []
    for row, sign in enumerate(side):
        left = len(side) - 1 - row
        signs = signs_of_row(sign, top, left, above)
        cells.append(signs)
        above = over_row(signs, left, above)[1]
    return cells


def ends_of(below, right):
    ends = [0] * (len(below) + len(right))
    for column, line in enumerate(below):
        ends[line] = column
    for place, line in enumerate(reversed(right)):
        ends[line] = len(below) + place
    return ends


def over_cells(many, far, cells):
    above = lines_above(many, far)
    coming = []
    right = []
    for row, signs in enumerate(cells):
        gone = over_row(signs, many - 1 - row, above)
        coming.append(gone[0])
        above = gone[1]
        right.append(gone[2])
    return (coming, ends_of(above, right))


def ways_of(many, coming):
    # A line goes only rightwards and downwards, so it meets its cells in the order of this walk.
    ways = [[] for line in range(many)]
    for row, pairs in enumerate(coming):
        for column, pair in enumerate(pairs):
            ways[pair[0]].append((row, column))
            ways[pair[1]].append((row, column))
    return ways


class Board:
    def __init__(self, side, top):
        need_rows(side, top)
        self.held_side = side
        self.held_top = top
        self.held_cells = cells_of(side, top)
        gone = over_cells(len(side), len(top), self.held_cells)
        self.held_coming = gone[0]
        self.held_lines = gone[1]
        self.held_ways = ways_of(len(side) + len(top), gone[0])

    def side(self):
        return self.held_side

    def top(self):
        return self.held_top

    def lines(self):
        return list(self.held_lines)

    def cells(self):
        return list(self.held_cells)

    def coming(self, row, column):
        need_place(row, 0, len(self.held_side) - 1)
        need_place(column, 0, len(self.held_top) - 1)
        return self.held_coming[row][column]

    def need_line(self, line):
        need_place(line, 0, len(self.held_lines) - 1)

    def way(self, line):
        self.need_line(line)
        return list(self.held_ways[line])

    def meets(self, line, other):
        self.need_line(line)
        self.need_line(other)
        return [cell for cell in self.held_ways[line] if other in self.held_coming[cell[0]][cell[1]]]

    def crossed_at(self, line, other):
        met = self.meets(line, other)
        # The meets of a line with itself are its whole way, where it crosses others.
        if line == other:
            return None
        for cell in met:
            if self.held_cells[cell[0]][cell[1]] == CROSS:
                return cell
        return None


def are_cells(many, far, thing):
    if not isinstance(thing, list) or len(thing) != many:
        return False
    for signs in thing:
        if not isinstance(signs, str) or len(signs) != far:
            return False
        if not all([sign == CROSS or sign == TOUCH for sign in signs]):
            return False
    return True


def walked(many, far, cells):
    need_place(many, 0, MOST_SIGNS)
    need_place(far, 0, MOST_SIGNS)
    if not are_cells(many, far, cells):
        raise NoCells(cells)
    return over_cells(many, far, cells)[1]


def is_board(side, top, thing):
    need_rows(side, top)
    return thing == cells_of(side, top)
