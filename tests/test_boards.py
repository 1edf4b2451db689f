"""Points [40] to [47], what [6] and [7] say of boards, and panethread/boards.py."""

import random
import string
import unittest

from panethread.boards import Board, is_board, walked
from panethread.errors import NoCells, NoNames, NoPlace, NoPlain, NoRow, NoSpan, NoThread, NoTurning, NoCounts, NoSteps
from panethread.heaps import are_heaps, paper_of, shows
from panethread.laying import by_steps, laid
from panethread.rows import is_plain, is_row, parted, renamed, stretch_of, turned, unparted
from panethread.threads import is_thread, said
from panethread.turnings import counted, from_counts, is_turning, straight

from common import FEW_ROWS, LONG_ROWS, Case, longest_by_least_ends, many_rows, odd_things, two_rows, within

ROWS = many_rows(60, 12, 7) + two_rows(61, 2, 14, "abc.")
MORE = [("ab." * 16, "b.a" * 16), (LONG_ROWS[0]), (LONG_ROWS[1]), (LONG_ROWS[2]), (LONG_ROWS[3]), (LONG_ROWS[7]),
        ("a" * 48, "ab"), (".", "." * 48)] + two_rows(62, 2, 48, "abcd.")


class Walk:
    """A board by a walk of each line from cell to cell, as [40] and [41] tell it.

    The lines are let in one after the other, from the lowest row upwards and then from left to right; a line waits
    in a cell until the other one that comes into the cell is there, too.
    """

    def __init__(self, side, top, cells=None):
        self.side, self.top, self.given = side, top, cells
        self.m, self.n = len(side), len(top)
        self.ends = [None] * (self.m + self.n)
        self.waiting = {}
        self.coming = {}
        self.signs = {}
        self.ways = {line: [] for line in range(self.m + self.n)}
        for line in range(self.m + self.n):
            if line < self.m:
                self.go([(line, self.m - 1 - line, 0, "left")])
            else:
                self.go([(line, 0, line - self.m, "above")])

    def go(self, moving):
        while moving:
            line, row, column, door = moving.pop()
            if row == self.m:
                self.ends[line] = column
                continue
            if column == self.n:
                self.ends[line] = self.n + self.m - 1 - row
                continue
            self.ways[line].append((row, column))
            doors = self.waiting.setdefault((row, column), {})
            doors[door] = line
            if len(doors) == 2:
                moving.extend(self.through(row, column, doors["left"], doors["above"]))

    def through(self, row, column, left, above):
        self.coming[row, column] = (left, above)
        if self.given is not None:
            sign = self.given[row][column]
        else:
            sign = "o" if self.side[row] == self.top[column] or left > above else "x"
        self.signs[row, column] = sign
        right, down = (left, above) if sign == "x" else (above, left)
        return [(right, row, column + 1, "left"), (down, row + 1, column, "above")]

    def cells(self):
        return ["".join(self.signs[row, column] for column in range(self.n)) for row in range(self.m)]

    def meets(self, line, other):
        return [cell for cell in self.ways[line] if cell in self.ways[other]]

    def crossed(self, line, other):
        found = [cell for cell in self.meets(line, other) if self.signs[cell] == "x" and line != other]
        return found[0] if found else None


def cells_of(walk):
    return [(row, column) for row in range(walk.m) for column in range(walk.n)]


class Boards(Case):
    def test_rows_lines_and_cells(self):
        for side, top in ROWS + MORE:
            walk, board = Walk(side, top), Board(side, top)
            self.tells(side, board.side)
            self.tells(top, board.top)
            self.tells(walk.ends, board.lines)
            self.tells(walk.cells(), board.cells)
            self.fresh(board.lines)
            self.fresh(board.cells)
            self.truth(True, is_turning, board.lines())

    def test_some_plain_cases(self):
        self.tells([0, 1], Board("a", "a").lines)
        self.tells([1, 0], Board("a", "b").lines)
        self.tells(["o"], Board("a", "a").cells)
        self.tells(["x"], Board("a", "b").cells)
        self.tells([], Board("", "").lines)
        self.tells([], Board("", "").cells)
        self.tells([0, 1, 2], Board("", "abc").lines)
        self.tells([], Board("", "abc").cells)
        self.tells([0, 1, 2], Board("abc", "").lines)
        self.tells(["", "", ""], Board("abc", "").cells)
        self.tells(["xo", "oo"], Board("ab", "ba").cells)
        self.tells([0, 2, 1, 3], Board("ab", "ba").lines)
        self.tells((2, 1), Board("ab", "ba").coming, 1, 1)
        self.tells([(0, 0), (1, 0), (1, 1)], Board("ab", "ba").way, 2)
        self.tells([(0, 0), (1, 1)], Board("ab", "ba").meets, 2, 1)
        self.tells((0, 0), Board("ab", "ba").crossed_at, 2, 1)
        self.tells(None, Board("ab", "ba").crossed_at, 0, 3)
        self.tells(None, Board("ab", "ba").crossed_at, 2, 2)
        self.tells(["o", "o"], Board("..", ".").cells)

    def test_coming(self):
        for side, top in ROWS + MORE:
            walk, board = Walk(side, top), Board(side, top)
            for row, column in cells_of(walk):
                self.tells(walk.coming[row, column], board.coming, row, column)

    def test_way(self):
        for side, top in ROWS + MORE:
            walk, board = Walk(side, top), Board(side, top)
            for line in range(len(side) + len(top)):
                self.tells(walk.ways[line], board.way, line)
                self.fresh(board.way, line)

    def test_meets_and_crossed_at(self):
        for side, top in ROWS + MORE[-2:]:
            walk, board = Walk(side, top), Board(side, top)
            for line in range(len(side) + len(top)):
                for other in range(len(side) + len(top)):
                    self.tells(walk.meets(line, other), board.meets, line, other)
                    self.tells(walk.crossed(line, other), board.crossed_at, line, other)
        for side, top in MORE:
            walk, board = Walk(side, top), Board(side, top)
            many = len(side) + len(top)
            for line in (0, len(side) - 1, len(side), many - 1, many // 3):
                for other in (0, len(side) - 1, len(side), many - 1, many // 2, line):
                    if min(line, other) >= 0 and max(line, other) < many:
                        self.tells(walk.meets(line, other), board.meets, line, other)
                        self.tells(walk.crossed(line, other), board.crossed_at, line, other)

    def test_meets_are_told_anew(self):
        for side, top in FEW_ROWS:
            board = Board(side, top)
            for line in range(len(side) + len(top)):
                for other in range(len(side) + len(top)):
                    self.fresh(board.meets, line, other)

    def test_a_fresh_board_asked_any_of_these_first(self):
        for side, top in [("ab.a", "ba.b"), ("", "ab"), ("ab", ""), ("a", "b")]:
            walk = Walk(side, top)
            self.tells(side, Board(side, top).side)
            self.tells(top, Board(side, top).top)
            self.tells(walk.ends, Board(side, top).lines)
            self.tells(walk.cells(), Board(side, top).cells)
            for row, column in cells_of(walk):
                self.tells(walk.coming[row, column], Board(side, top).coming, row, column)
            for line in range(len(side) + len(top)):
                self.tells(walk.ways[line], Board(side, top).way, line)
                for other in range(len(side) + len(top)):
                    self.tells(walk.meets(line, other), Board(side, top).meets, line, other)
                    self.tells(walk.crossed(line, other), Board(side, top).crossed_at, line, other)

    def test_two_boards_have_nothing_to_do_with_one_another(self):
        one, other = Board("ab", "ba"), Board("ba.", "b")
        wanted = Walk("ab", "ba")
        other.lines().clear()
        other.cells().clear()
        other.way(0).clear()
        third = Board("ab", "ba")
        third.way(1).clear()
        third.lines().reverse()
        self.tells(wanted.ends, one.lines)
        self.tells(wanted.cells(), one.cells)
        self.tells(wanted.ways[1], one.way, 1)
        self.tells(Walk("ba.", "b").ends, other.lines)

    def test_refused(self):
        self.refuses_rows_first(Board)


class Places(Case):
    def test_coming(self):
        for side, top in (("ab", "abc"), ("", ""), ("a", ""), ("", "a"), ("a" * 48, "." * 47)):
            board = Board(side, top)
            m, n = len(side), len(top)
            for thing in odd_things() + [m, n, m + 1, n + 1, m + n, "0", -m, -n]:
                if not within(thing, 0, m - 1):
                    for column in (0, n - 1, n, None, thing):
                        self.refuses(NoPlace, {"found": thing}, board.coming, thing, column)
                if not within(thing, 0, n - 1) and m > 0:
                    for row in (0, m - 1):
                        self.refuses(NoPlace, {"found": thing}, board.coming, row, thing)

    def test_a_board_without_cells_refuses_every_row_or_column(self):
        for number in range(-1, 5):
            for other in range(-1, 5):
                self.refuses(NoPlace, {"found": number}, Board("", "abc").coming, number, other)
                wrong = other if 0 <= number < 3 else number
                self.refuses(NoPlace, {"found": wrong}, Board("abc", "").coming, number, other)

    def test_lines(self):
        for side, top in (("ab", "abc"), ("", ""), ("a", ""), ("", "a"), ("a" * 48, "." * 48)):
            board = Board(side, top)
            many = len(side) + len(top)
            shown = repr((board.lines(), board.cells()))
            for thing in odd_things() + [many, many + 1, -many, "0"]:
                if within(thing, 0, many - 1):
                    continue
                self.refuses(NoPlace, {"found": thing}, board.way, thing)
                for call in (board.meets, board.crossed_at):
                    for other in (0, many - 1, many, None, -1):
                        self.refuses(NoPlace, {"found": thing}, call, thing, other)
                    if many > 0:
                        self.refuses(NoPlace, {"found": thing}, call, 0, thing)
                        self.refuses(NoPlace, {"found": thing}, call, many - 1, thing)
            self.assertEqual(repr((board.lines(), board.cells())), shown)


class WhatTheLinesTell(Case):
    def test_no_two_lines_cross_twice(self):
        for side, top in ROWS + MORE[-1:]:
            board = Board(side, top)
            cells, lines = board.cells(), board.lines()
            for line in range(len(lines)):
                for other in range(line + 1, len(lines)):
                    met = board.meets(line, other)
                    crossed = [(row, column) for row, column in met if cells[row][column] == "x"]
                    unlike = [(row, column) for row, column in met if side[row] != top[column]]
                    self.assertEqual(crossed, unlike[:1])
                    self.assertEqual(board.crossed_at(line, other), crossed[0] if crossed else None)
                    self.assertEqual(lines[line] > lines[other], bool(crossed))

    def test_the_lengths_of_all_stretches(self):
        for side, top in ROWS + [("ab." * 16, "b.a" * 8), ("a" * 48, "a" * 12), ("thequick", "brownfoxjumps")]:
            lines, m, n = Board(side, top).lines(), len(side), len(top)
            for begin in range(n + 1):
                for end in range(begin, n + 1):
                    less = len([s for s in range(m + begin, m + n) if lines[s] < end])
                    self.assertEqual(end - begin - less, longest_by_least_ends(side, top[begin:end]))

    def test_all_windows(self):
        for side, top in ROWS:
            lines, m, n = Board(side, top).lines(), len(side), len(top)
            spans = [(first, last) for first in range(m + 1) for last in range(first, m + 1)]
            for first, last in spans:
                for begin in range(n + 1):
                    for end in range(begin, n + 1):
                        if (first == 0 or begin == 0) and (last == m or end == n):
                            told = end - begin - counted(lines, m - first + begin, m - last + end)
                            wanted = longest_by_least_ends(side[first:last], top[begin:end])
                            self.assertEqual(told, wanted, (side, top, first, last, begin, end))

    def test_each_length_comes_with_a_thread_and_heaps(self):
        for side, top in ROWS:
            lines, m, n = Board(side, top).lines(), len(side), len(top)
            for begin in range(n + 1):
                paper = paper_of(side, top[begin:])
                self.truth(True, shows, side, top[begin:], paper)
                self.assertEqual(len(paper[0]), n - begin - counted(lines, m + begin, n))

    def test_rows_exchanged(self):
        for side, top in ROWS + MORE:
            one, other = Board(side, top), Board(top, side)
            many = len(side) + len(top)
            self.assertEqual(["".join(signs) for signs in zip(*one.cells())] or [""] * len(top),
                             other.cells() or [""] * len(top))
            for s, end in enumerate(one.lines()):
                self.assertEqual(other.lines()[many - 1 - s], many - 1 - end)

    def test_rows_turned_about(self):
        for side, top in ROWS + MORE:
            one, other = Board(side, top).lines(), Board(turned(side), turned(top)).lines()
            many = len(one)
            for s in range(many):
                self.assertEqual(other[many - 1 - one[s]], many - 1 - s)

    def test_letters_named_anew(self):
        names = dict(zip(string.ascii_lowercase, reversed(string.ascii_lowercase)))
        around = {"a": "b", "b": "c", "c": "d", "d": "a"}
        for side, top in ROWS + MORE:
            one = Board(side, top)
            for new in (names, around):
                other = Board(renamed(side, new), renamed(top, new))
                self.assertEqual(one.cells(), other.cells())
                self.assertEqual(one.lines(), other.lines())


def over(upper, m1, lower, m2, n):
    """Lines of two boards with one top, laid over one another by [37] alone."""
    one = list(range(m2)) + [end + m2 for end in upper]
    other = lower + list(range(m2 + n, m2 + n + m1))
    return laid(one, other)


def beside(left, n1, right, n2, m):
    one = left + list(range(m + n1, m + n1 + n2))
    other = list(range(n1)) + [end + n1 for end in right]
    return laid(one, other)


class LaidTogether(Case):
    def test_over_and_beside(self):
        chance = random.Random(63)
        for side, top in ROWS + MORE:
            m, n = len(side), len(top)
            whole = Board(side, top).lines()
            for cut in sorted({0, m, chance.randint(0, m), chance.randint(0, m)}):
                upper, lower = Board(side[:cut], top).lines(), Board(side[cut:], top).lines()
                self.assertEqual(over(upper, cut, lower, m - cut, n), whole)
            for cut in sorted({0, n, chance.randint(0, n), chance.randint(0, n)}):
                left, right = Board(side, top[:cut]).lines(), Board(side, top[cut:]).lines()
                self.assertEqual(beside(left, cut, right, n - cut, m), whole)

    def test_in_whatever_brackets(self):
        for one, other in two_rows(64, 20, 5):
            for third, top in two_rows(65, 2, 6):
                a, b, c = [Board(side, top).lines() for side in (one, other, third)]
                n, sizes = len(top), (len(one), len(other), len(third))
                first = over(over(a, sizes[0], b, sizes[1], n), sizes[0] + sizes[1], c, sizes[2], n)
                last = over(a, sizes[0], over(b, sizes[1], c, sizes[2], n), sizes[1] + sizes[2], n)
                self.assertEqual(first, Board(one + other + third, top).lines())
                self.assertEqual(last, first)


def some_cells(chance, many, far, signs="xo"):
    return ["".join(chance.choice(signs) for column in range(far)) for row in range(many)]


def cells_by_reading(many, far, thing):
    return (type(thing) is list and len(thing) == many
            and all(type(row) is str and len(row) == far and set(row) <= set("xo") for row in thing))


class Walked(Case):
    def test_any_cells(self):
        chance = random.Random(66)
        sizes = [(0, 0), (0, 1), (1, 0), (0, 48), (48, 0), (1, 1), (2, 2), (2, 3), (5, 4), (7, 7), (48, 1), (1, 48), (48, 48)]
        for many, far in sizes:
            for signs in ("x", "o", "xo", "xxxo", "xooo"):
                cells = some_cells(chance, many, far, signs)
                wanted = Walk("a" * many, "a" * far, cells).ends
                self.tells(wanted, walked, many, far, cells)
                self.fresh(walked, many, far, cells)

    def test_all_small_cells(self):
        for many, far in ((1, 1), (1, 2), (2, 1), (2, 2), (2, 3), (3, 2)):
            for number in range(2 ** (many * far)):
                signs = "".join("xo"[number >> place & 1] for place in range(many * far))
                cells = [signs[row * far:row * far + far] for row in range(many)]
                self.tells(Walk("a" * many, "b" * far, cells).ends, walked, many, far, cells)

    def test_two_lines_that_cross_more_than_once(self):
        self.tells([2, 3, 0, 1], walked, 2, 2, ["xx", "xx"])
        self.tells([0, 1, 2, 3], walked, 2, 2, ["oo", "oo"])
        self.tells([0, 1, 2, 3], walked, 2, 2, ["xo", "ox"])
        walk = Walk("ab", "ab", ["xo", "ox"])
        twice = [(line, other) for line in range(4) for other in range(line)
                 if len([cell for cell in walk.meets(line, other) if walk.signs[cell] == "x"]) > 1]
        self.assertEqual(twice, [(2, 1)])

    def test_the_cells_of_boards(self):
        for side, top in ROWS + MORE:
            board = Board(side, top)
            self.tells(board.lines(), walked, len(side), len(top), board.cells())

    def test_places_are_refused_first(self):
        for thing in odd_things() + [49, -1, "2", [2]]:
            if not within(thing, 0, 48):
                for cells in ([], ["x"], None, ["X"], thing):
                    for far in (0, 48, 49, None, thing):
                        self.refuses(NoPlace, {"found": thing}, walked, thing, far, cells)
                    for many in (0, 1, 48):
                        self.refuses(NoPlace, {"found": thing}, walked, many, thing, cells)

    def test_what_are_no_cells(self):
        chance = random.Random(67)
        for many, far in ((0, 0), (0, 2), (2, 0), (1, 1), (2, 3), (3, 3), (48, 48)):
            good = some_cells(chance, many, far)
            things = odd_things() + [tuple(good), good + good[:1], good + [""], good[1:], good[:-1], "".join(good),
                                     [good], [list(row) for row in good], [tuple(row) for row in good], [""] * many,
                                     [row + "x" for row in good], [row[1:] for row in good], [None] * many, [[]] * many,
                                     [0] * many, [True] * many, {place: row for place, row in enumerate(good)},
                                     [()] * many, good + [None], ["X" * far] * many, ["\n" * far] * many,
                                     ["xo" * far] * many]
            for place, row in enumerate(good[:4]):
                for sign in ("X", "O", "0", " ", "\n", ".", "a", "", "xx", "oo"):
                    things.append(good[:place] + [row[:-1] + sign] + good[place + 1:])
                    things.append(good[:place] + [sign + row[1:]] + good[place + 1:])
                for other in (None, list(row), tuple(row), 0, True, {}, [row]):
                    things.append(good[:place] + [other] + good[place + 1:])
            for thing in things:
                if cells_by_reading(many, far, thing):
                    self.tells(Walk("a" * many, "a" * far, thing).ends, walked, many, far, thing)
                else:
                    self.refuses(NoCells, {"found": thing}, walked, many, far, thing)


class IsBoard(Case):
    def test_the_right_list(self):
        for side, top in ROWS + MORE:
            self.truth(True, is_board, side, top, Walk(side, top).cells())
            self.truth(True, is_board, side, top, Board(side, top).cells())

    def test_the_same_spoilt(self):
        for side, top in ROWS + [("ab." * 5, "b.a" * 5)]:
            cells = Walk(side, top).cells()
            things = [tuple(cells), cells + [""], cells + cells[-1:] + ["x"], "".join(cells), None, [cells],
                      [list(row) for row in cells], [tuple(row) for row in cells], {0: cells}, (cells,),
                      [row + "x" for row in cells], [row.upper() for row in cells], Board(side, top),
                      Board(side, top).lines(), list(reversed(cells))]
            if cells:
                things += [cells[1:], cells[:-1], cells[:-1] + [None], cells + cells[-1:]]
            for place, row in enumerate(cells):
                for column, sign in enumerate(row):
                    for other in ("o" if sign == "x" else "x", "", "xx", sign.upper(), " "):
                        things.append(cells[:place] + [row[:column] + other + row[column + 1:]] + cells[place + 1:])
            for thing in things:
                self.truth(type(thing) is list and repr(thing) == repr(cells), is_board, side, top, thing)

    def test_any_thing(self):
        for side, top in FEW_ROWS:
            cells = Walk(side, top).cells()
            for thing in odd_things():
                self.truth(type(thing) is list and thing == cells, is_board, side, top, thing)

    def test_refused(self):
        for thing in ([], ["x"], None, "A", ["oo", "oo"]):
            self.refuses_rows_first(is_board, thing)


class ObjectsHandedIn(Case):
    def test_a_board_is_no_thing_of_other_kinds(self):
        board = Board("ab", "ba")
        for thing in (board, [board], (board,), [board, board]):
            for call in (is_row, is_plain, is_turning):
                self.truth(False, call, thing)
            for call in (is_thread, are_heaps, shows, is_board):
                self.truth(False, call, "ab", "ba", thing)
            self.truth(False, shows, "ab", "ba", ([], thing))
            self.truth(False, shows, "ab", "ba", (thing, []))
            self.refuses(NoPlain, {"found": thing}, parted, thing)
            self.refuses(NoRow, {"found": thing}, unparted, thing)
            self.refuses(NoRow, {"found": thing}, Board, thing, "")
            self.refuses(NoNames, {"found": thing}, renamed, "ab", thing)
            self.refuses(NoSpan, {"begin": thing, "end": 0}, stretch_of, "ab", thing, 0)
            self.refuses(NoThread, {"found": thing}, said, "ab", "ba", thing)
            self.refuses(NoTurning, {"found": thing}, laid, thing, [0])
            self.refuses(NoCounts, {"found": thing}, from_counts, thing)
            self.refuses(NoPlace, {"found": thing}, straight, thing)
            self.refuses(NoSteps, {"found": thing}, by_steps, 2, thing)
            self.refuses(NoCells, {"found": thing}, walked, 1, 1, thing)
            self.refuses(NoPlace, {"found": thing}, board.way, thing)
        self.refuses(NoNames, {}, renamed, "ab", {"a": board})


if __name__ == "__main__":
    unittest.main()
