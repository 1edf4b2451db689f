"""Points [52] to [58], what [6] says of windows, and panethread/asks.py."""

import random
import unittest

from panethread.asks import Asks, asks_of
from panethread.boards import Board
from panethread.errors import NoPlace, NoSpan, NoTurning, NoWindow

from common import (FEW_ROWS, LONG_ROWS, Case, lengths_by_least_ends, longest_by_least_ends, odd_things, two_rows,
                    whole, within)
from test_tallies import span_by_reading, spans
from test_turnings import NO_TURNINGS, SOME, counted_by_reading, some_turning


class Plain:
    """What [53] to [57] say, word by word, of a turning and a number of signs of the side."""

    def __init__(self, turning, many):
        self.turning, self.m, self.n = list(turning), many, len(turning) - many
        self.known = {}

    def window(self, first, last, begin, end):
        asked = (first, last, begin, end)
        if asked not in self.known:
            less = counted_by_reading(self.turning, self.m - first + begin, self.m - last + end)
            self.known[asked] = end - begin - less
        return self.known[asked]

    def stretch(self, begin, end):
        return self.window(0, self.m, begin, end)

    def windows(self):
        return [(first, last, begin, end) for first, last in spans(self.m) for begin, end in spans(self.n)
                if (first == 0 or begin == 0) and (last == self.m or end == self.n)]

    def table(self):
        return [[self.stretch(b, b + w) for w in range(self.n - b + 1)] for b in range(self.n + 1)]

    def sliding(self, width):
        return [self.stretch(b, b + width) for b in range(self.n - width + 1)]

    def gains(self, begin):
        return [e for e in range(begin, self.n) if self.stretch(begin, e + 1) == self.stretch(begin, e) + 1]

    def losses(self, end):
        return [b for b in range(end) if self.stretch(b, end) == self.stretch(b + 1, end) + 1]

    def reaching(self, length):
        return [(b, e) for b, e in spans(self.n) if self.stretch(b, e) >= length]

    def tightest(self, length):
        enough = self.reaching(length)
        return sorted((b, e) for b, e in enough
                      if not any(b <= begin and end <= e and (begin, end) != (b, e) for begin, end in enough))

    def shortest(self, length):
        enough = self.reaching(length)
        return min(enough, key=lambda stretch: (stretch[1] - stretch[0], stretch[0])) if enough else None


def small_cases():
    chance = random.Random(90)
    made = [(turning, many) for turning in SOME if len(turning) <= 4 for many in range(len(turning) + 1)]
    for size in (5, 6, 7, 8, 9, 11, 13):
        made += [(some_turning(chance, size), chance.randint(0, size)) for time in range(4)]
    made += [(Board(side, top).lines(), len(side)) for side, top in FEW_ROWS + two_rows(91, 12, 7)]
    made += [(list(range(9)), 4), (list(reversed(range(9))), 4), (list(reversed(range(8))), 0), (list(range(8)), 8)]
    return made


def great_cases():
    chance = random.Random(92)
    made = [(some_turning(chance, 96), many) for many in (0, 48, 96)]
    made += [(some_turning(chance, 95), 40), (some_turning(chance, 64), 9), (list(range(96)), 0)]
    made += [(list(reversed(range(96))), 0), (list(reversed(range(96))), 48)]
    made += [(Board(side, top).lines(), len(side)) for side, top in LONG_ROWS]
    return made


SMALL = small_cases()
GREAT = great_cases()


class Windows(Case):
    def test_all_windows(self):
        for turning, many in SMALL:
            plain, asks = Plain(turning, many), Asks(turning, many)
            other = Asks(tuple(turning), many)
            for asked in plain.windows():
                self.tells(plain.window(*asked), asks.window, *asked)
                self.tells(plain.window(*asked), other.window, *asked)

    def test_drawn_windows_of_many_lines(self):
        chance = random.Random(93)
        for turning, many in GREAT:
            plain, asks = Plain(turning, many), Asks(turning, many)
            m, n = plain.m, plain.n
            for time in range(150):
                first, last = sorted([chance.randint(0, m), chance.randint(0, m)])
                begin, end = sorted([chance.randint(0, n), chance.randint(0, n)])
                for asked in ((0, m, begin, end), (0, last, begin, n), (first, m, 0, end), (first, last, 0, n)):
                    self.tells(plain.window(*asked), asks.window, *asked)

    def test_the_four_kinds(self):
        for turning, many in SMALL + GREAT:
            plain, asks = Plain(turning, many), Asks(turning, many)
            m, n = plain.m, plain.n
            step = 1 if len(turning) < 20 else 5
            for begin, end in spans(n)[::step]:
                self.assertEqual(repr(asks.stretch(begin, end)), repr(plain.stretch(begin, end)))
            for first, last in spans(m)[::step]:
                self.assertEqual(repr(asks.across(first, last)), repr(plain.window(first, last, 0, n)))
            for i in range(m + 1):
                for j in list(range(n + 1))[::step]:
                    self.assertEqual(repr(asks.beginning(i, j)), repr(plain.window(0, i, j, n)))
                    self.assertEqual(repr(asks.ending(i, j)), repr(plain.window(i, m, 0, j)))

    def test_less_than_nought(self):
        asks = Asks([1, 0], 0)
        self.tells(-1, asks.stretch, 1, 1)
        self.tells(-1, asks.window, 0, 0, 1, 1)
        self.tells([0, -1, 0], asks.sliding, 0)
        self.tells([(0, 0), (2, 2)], asks.tightest, 0)
        self.tells((0, 0), asks.shortest, 0)

    def test_no_lines(self):
        asks = Asks([], 0)
        self.tells(0, asks.window, 0, 0, 0, 0)
        self.tells([[0]], asks.table)
        self.tells([0], asks.sliding, 0)
        self.tells([], asks.gains, 0)
        self.tells([], asks.losses, 0)
        self.tells([(0, 0)], asks.tightest, 0)
        self.tells([], asks.tightest, 1)
        self.tells((0, 0), asks.shortest, 0)
        self.tells(None, asks.shortest, 96)


class Lists(Case):
    def test_table_and_sliding(self):
        for turning, many in SMALL + GREAT:
            plain, asks = Plain(turning, many), Asks(turning, many)
            self.tells(plain.table(), asks.table)
            for width in range(plain.n + 1):
                self.tells(plain.sliding(width), asks.sliding, width)

    def test_gains_and_losses(self):
        for turning, many in SMALL + GREAT:
            plain, asks = Plain(turning, many), Asks(turning, many)
            for place in range(plain.n + 1):
                self.tells(plain.gains(place), asks.gains, place)
                self.tells(plain.losses(place), asks.losses, place)

    def test_a_longer_stretch_has_the_same_or_one_more(self):
        for turning, many in SMALL:
            asks, n = Asks(turning, many), len(turning) - many
            for begin, end in spans(n):
                if end < n:
                    self.assertIn(asks.stretch(begin, end + 1) - asks.stretch(begin, end), (0, 1))
                if begin > 0:
                    self.assertIn(asks.stretch(begin - 1, end) - asks.stretch(begin, end), (0, 1))

    def test_tightest_and_shortest(self):
        for turning, many in SMALL:
            plain, asks = Plain(turning, many), Asks(turning, many)
            for length in list(range(plain.n + 3)) + [48, 95, 96]:
                self.tells(plain.tightest(length), asks.tightest, length)
                self.tells(plain.shortest(length), asks.shortest, length)

    def test_tightest_and_shortest_of_many_lines(self):
        for turning, many in GREAT:
            plain, asks = Plain(turning, many), Asks(turning, many)
            greatest = plain.stretch(0, plain.n)
            for length in sorted({0, 1, 2, 5, greatest // 2, greatest, greatest + 1, 96}):
                if within(length, 0, 96):
                    wanted = self.tightest_by_steps(plain, length)
                    self.tells(wanted, asks.tightest, length)
                    self.tells(plain.shortest(length), asks.shortest, length)

    def tightest_by_steps(self, plain, length):
        """Within a stretch lie those that are shorter by one sign, and all others within these [56]."""
        return [(b, e) for b, e in plain.reaching(length)
                if b == e or (plain.stretch(b + 1, e) < length and plain.stretch(b, e - 1) < length)]

    def test_the_steps_are_the_words(self):
        for turning, many in SMALL:
            plain = Plain(turning, many)
            for length in range(plain.n + 2):
                self.assertEqual(self.tightest_by_steps(plain, length), plain.tightest(length))

    def test_how_many_ends_a_long_stretch(self):
        asks = Asks(list(range(96)), 0)
        self.tells([(place, place) for place in range(97)], asks.tightest, 0)
        self.tells([], asks.tightest, 1)
        asks = Asks(Board("a" * 48, "a" * 48).lines(), 48)
        self.tells([(0, 48)], asks.tightest, 48)
        self.tells((0, 48), asks.shortest, 48)
        self.tells([], asks.tightest, 49)
        self.tells(None, asks.shortest, 49)


def all_told(asks, m, n):
    told = [asks.table()] + [asks.sliding(width) for width in range(n + 1)]
    told += [(asks.gains(place), asks.losses(place)) for place in range(n + 1)]
    told += [(asks.tightest(length), asks.shortest(length)) for length in range(n + 2)]
    told += [(asks.beginning(i, j), asks.ending(i, j)) for i in range(m + 1) for j in range(n + 1)]
    told += [asks.across(first, last) for first, last in spans(m)]
    return repr(told)


class TheAskersOwn(Case):
    def test_what_was_told_and_then_changed(self):
        for turning, many in SMALL:
            asks, n = Asks(turning, many), len(turning) - many
            self.fresh(asks.table)
            for place in range(n + 1):
                self.fresh(asks.sliding, place)
                self.fresh(asks.gains, place)
                self.fresh(asks.losses, place)
                self.fresh(asks.tightest, place)
            self.assertEqual(all_told(asks, many, n), all_told(Asks(tuple(turning), many), many, n))

    def test_what_was_handed_in_and_then_changed(self):
        for turning, many in SMALL:
            handed = list(turning)
            asks, n = Asks(handed, many), len(turning) - many
            self.assertEqual(handed, turning)
            wanted = all_told(Asks(tuple(turning), many), many, n)
            handed.reverse()
            self.assertEqual(all_told(asks, many, n), wanted)
            handed.clear()
            self.assertEqual(all_told(asks, many, n), wanted)

    def test_refusals_change_nothing(self):
        asks = Asks([3, 0, 4, 2, 1], 2)
        wanted = all_told(asks, 2, 3)
        self.refuses(NoWindow, {}, asks.window, 1, 1, 1, 1)
        self.refuses(NoSpan, {"begin": 2, "end": 1}, asks.stretch, 2, 1)
        self.refuses(NoPlace, {"found": 4}, asks.gains, 4)
        self.assertEqual(all_told(asks, 2, 3), wanted)


class RefusedAtTheMaking(Case):
    def test_no_turning_goes_ahead(self):
        for thing in NO_TURNINGS:
            for many in (0, 1, 97, None, thing):
                self.refuses(NoTurning, {"found": thing}, Asks, thing, many)

    def test_no_place(self):
        for turning in ([], [0], (1, 0), list(range(95)), tuple(range(96))):
            for thing in odd_things() + [len(turning) + 1, -1, "0"]:
                if not within(thing, 0, len(turning)):
                    self.refuses(NoPlace, {"found": thing}, Asks, turning, thing)


SIZES = [(0, 0), (0, 2), (2, 0), (1, 1), (3, 4), (48, 48)]


def some_asks(m, n):
    return Asks(some_turning(random.Random(94), m + n), m)


class Refused(Case):
    def no_spans(self, many):
        """Two things each that are no stretch of so many signs."""
        things = odd_things() + [many + 1, -1, "0"]
        pairs = [(thing, many) for thing in things] + [(0, thing) for thing in things]
        pairs += [(thing, thing) for thing in things] + [(thing, None) for thing in things]
        pairs += [(1, 0), (many, many - 1), (many + 1, many + 1), (True, True), (False, 0), (0, True), (2, 1)]
        return [(begin, end) for begin, end in pairs if not span_by_reading(begin, end, many)]

    def test_window(self):
        for m, n in SIZES:
            asks = some_asks(m, n)
            for first, last in self.no_spans(m):
                for begin, end in ((0, n), (n, n), (1, 0), (None, -1), (first, last)):
                    self.refuses(NoSpan, {"begin": first, "end": last}, asks.window, first, last, begin, end)
            for begin, end in self.no_spans(n):
                for first, last in ((0, m), (0, 0), (m, m)):
                    self.refuses(NoSpan, {"begin": begin, "end": end}, asks.window, first, last, begin, end)

    def test_no_window(self):
        for m, n in ((0, 0), (0, 3), (3, 0), (1, 1), (2, 2), (3, 4)):
            asks = some_asks(m, n)
            right = set(Plain(list(range(m + n)), m).windows())
            for first, last in spans(m):
                for begin, end in spans(n):
                    asked = (first, last, begin, end)
                    if asked in right:
                        self.assertTrue(whole(asks.window(*asked)))
                        continue
                    self.refuses(NoWindow, {}, asks.window, *asked)
                    try:
                        asks.window(*asked)
                    except NoWindow as error:
                        self.assertEqual(repr(error.found), repr(asked))

    def test_stretch_and_across(self):
        for m, n in SIZES:
            asks = some_asks(m, n)
            for begin, end in self.no_spans(n):
                self.refuses(NoSpan, {"begin": begin, "end": end}, asks.stretch, begin, end)
            for first, last in self.no_spans(m):
                self.refuses(NoSpan, {"begin": first, "end": last}, asks.across, first, last)

    def test_beginning_and_ending(self):
        for m, n in SIZES:
            asks = some_asks(m, n)
            for thing in odd_things() + [m + 1, n + 1, -1, m + n, "0"]:
                for call in (asks.beginning, asks.ending):
                    if not within(thing, 0, m):
                        for other in (0, n, n + 1, None, thing):
                            self.refuses(NoPlace, {"found": thing}, call, thing, other)
                    if not within(thing, 0, n):
                        self.refuses(NoPlace, {"found": thing}, call, 0, thing)
                        self.refuses(NoPlace, {"found": thing}, call, m, thing)

    def test_one_number(self):
        for m, n in SIZES:
            asks = some_asks(m, n)
            for thing in odd_things() + [m + 1, n + 1, -1, m + n + 1, 97, "0"]:
                for call in (asks.sliding, asks.gains, asks.losses):
                    if not within(thing, 0, n):
                        self.refuses(NoPlace, {"found": thing}, call, thing)
                for call in (asks.tightest, asks.shortest):
                    if not within(thing, 0, 96):
                        self.refuses(NoPlace, {"found": thing}, call, thing)


class OfRows(Case):
    def test_every_window(self):
        for side, top in FEW_ROWS + two_rows(95, 10, 7) + two_rows(96, 6, 7, "abc") + two_rows(97, 2, 11, "ab.c"):
            asks = asks_of(side, top)
            self.assertIs(type(asks), Asks)
            for asked in Plain(list(range(len(side) + len(top))), len(side)).windows():
                first, last, begin, end = asked
                self.tells(longest_by_least_ends(side[first:last], top[begin:end]), asks.window, *asked)

    def test_windows_of_long_rows(self):
        for side, top in LONG_ROWS + two_rows(98, 2, 48, "abcd."):
            asks, m, n = asks_of(side, top), len(side), len(top)
            for begin in range(0, n + 1, 7):
                told = lengths_by_least_ends(side, top[begin:])
                self.assertEqual([asks.stretch(begin, end) for end in range(begin, n + 1)], told[m])
                self.assertEqual([asks.beginning(last, begin) for last in range(m + 1)], [row[-1] for row in told])
            for first in range(0, m + 1, 7):
                told = lengths_by_least_ends(side[first:], top)
                self.assertEqual([asks.ending(first, end) for end in range(n + 1)], told[-1])
                self.assertEqual([asks.across(first, last) for last in range(first, m + 1)], [row[-1] for row in told])

    def test_the_lines_of_the_board(self):
        for side, top in FEW_ROWS + two_rows(99, 5, 9):
            m, n = len(side), len(top)
            self.assertEqual(all_told(asks_of(side, top), m, n), all_told(Asks(Board(side, top).lines(), m), m, n))

    def test_refused(self):
        self.refuses_rows_first(asks_of)


if __name__ == "__main__":
    unittest.main()
