"""Point [59] and panethread/windows.py."""

import random
import unittest

from panethread.asks import asks_of
from panethread.errors import NoRow, NoSpan, NoWindow
from panethread.windows import shows_window, window_paper

from common import FEW_ROWS, LONG_ROWS, Case, longest_by_least_ends, no_rows, odd_things, two_rows
from test_heaps import copied, other_pairs, paper_by_reading, peeled, spoilt_heaps, stirred
from test_tallies import span_by_reading, spans

ROWS = FEW_ROWS + two_rows(100, 5, 6) + two_rows(101, 2, 9, "abc.")


def windows(side, top):
    m, n = len(side), len(top)
    return [(first, last, begin, end) for first, last in spans(m) for begin, end in spans(n)
            if (first == 0 or begin == 0) and (last == m or end == n)]


def some_windows(chance, side, top, times):
    every = windows(side, top)
    return chance.sample(every, min(times, len(every)))


def moved(thing, first, begin):
    """Pairs of whole numbers, wherever they stand in lists and tuples, with other places; all else stays."""
    if type(thing) is tuple and len(thing) == 2 and type(thing[0]) is int and type(thing[1]) is int:
        return (thing[0] + first, thing[1] + begin)
    if type(thing) in (list, tuple):
        return type(thing)([moved(inner, first, begin) for inner in thing])
    return thing


def window_paper_by_reading(side, top, first, last, begin, end, thing):
    return paper_by_reading(side[first:last], top[begin:end], moved(thing, -first, -begin))


class Papers(Case):
    def check(self, side, top, asked, paper):
        first, last, begin, end = asked
        cut, other = side[first:last], top[begin:end]
        self.assertIs(type(paper), tuple)
        self.assertEqual(len(paper), 2)
        self.pairs(paper[0])
        self.assertIs(type(paper[1]), list)
        for heap in paper[1]:
            self.pairs(heap)
        self.assertTrue(paper_by_reading(cut, other, moved(paper, -first, -begin)), (side, top, asked, paper))
        self.assertEqual(len(paper[0]), longest_by_least_ends(cut, other))
        for i, j in paper[0]:
            self.assertTrue(first <= i < last and begin <= j < end and side[i] == top[j])

    def test_all_windows(self):
        for side, top in ROWS:
            for asked in windows(side, top):
                paper = window_paper(side, top, *asked)
                self.check(side, top, asked, paper)
                first, last, begin, end = asked
                wanted = moved(peeled(side[first:last], top[begin:end]), first, begin)
                self.assertEqual(repr(paper[1]), repr(wanted))
                self.assertEqual(len(paper[1]), asks_of(side, top).window(*asked))
                self.truth(True, shows_window, side, top, *asked, paper)

    def test_long_rows(self):
        chance = random.Random(102)
        for side, top in LONG_ROWS:
            m, n = len(side), len(top)
            for time in range(2):
                first, last = sorted([chance.randint(0, m), chance.randint(0, m)])
                begin, end = sorted([chance.randint(0, n), chance.randint(0, n)])
                for asked in ((0, m, begin, end), (0, last, begin, n), (first, m, 0, end), (first, last, 0, n)):
                    paper = window_paper(side, top, *asked)
                    self.check(side, top, asked, paper)
                    self.truth(True, shows_window, side, top, *asked, paper)
                    if paper[0]:
                        self.truth(False, shows_window, side, top, *asked, (paper[0][1:], paper[1]))

    def test_some_plain_cases(self):
        self.tells(([], []), window_paper, "", "", 0, 0, 0, 0)
        self.tells(([(2, 1)], [[(2, 1)]]), window_paper, "xya", "zab", 2, 3, 0, 3)
        self.tells(([(0, 2)], [[(0, 2)]]), window_paper, "ab", "xya", 0, 2, 2, 3)
        self.truth(True, shows_window, "xya", "zab", 2, 3, 0, 3, ([(2, 1)], [[(2, 1)]]))
        self.truth(False, shows_window, "xya", "zab", 2, 3, 0, 3, ([(0, 1)], [[(0, 1)]]))
        self.truth(False, shows_window, "xyb", "zab", 2, 3, 0, 3, ([(2, 1)], [[(2, 1)]]))
        self.truth(False, shows_window, "aya", "zab", 1, 3, 0, 3, ([(2, 1)], [[(2, 1), (0, 1)]]))

    def test_told_anew(self):
        for side, top in ROWS[:20]:
            for asked in some_windows(random.Random(103), side, top, 8):
                self.fresh(window_paper, side, top, *asked)

    def test_other_threads_and_heaps(self):
        chance = random.Random(104)
        for side, top in ROWS:
            for asked in some_windows(chance, side, top, 12):
                thread, heaps = window_paper(side, top, *asked)
                self.truth(True, shows_window, side, top, *asked, (thread, stirred(heaps, chance)))
        rows = [[(i, j) for j in range(1, 4)] for i in range(3)]
        columns = [[(i, j) for i in range(3)] for j in range(1, 4)]
        self.truth(True, shows_window, "aaa", "aaaa", 0, 3, 1, 4, ([(0, 1), (1, 2), (2, 3)], rows))
        self.truth(True, shows_window, "aaa", "aaaa", 0, 3, 1, 4, ([(0, 1), (1, 2), (2, 3)], columns))
        self.truth(True, shows_window, "aba", "xab", 0, 3, 1, 2, ([(0, 1)], [[(2, 1), (0, 1)]]))
        self.truth(True, shows_window, "aba", "xab", 0, 3, 1, 2, ([(2, 1)], [[(2, 1), (0, 1)]]))


class Spoilt(Case):
    def judged(self, side, top, asked, thing):
        wanted = window_paper_by_reading(side, top, *asked, thing)
        self.truth(wanted, shows_window, side, top, *asked, thing)

    def test_at_one_place(self):
        chance = random.Random(105)
        for side, top in ROWS:
            for asked in some_windows(chance, side, top, 5):
                thread, heaps = window_paper(side, top, *asked)
                things = [(thread, other) for other in spoilt_heaps(heaps, chance)]
                for place, pair in enumerate(thread):
                    others = [[other] for other in other_pairs(pair)] + [[], [pair, pair]]
                    things += [(thread[:place] + other + thread[place + 1:], heaps) for other in others]
                things += [[thread, heaps], (thread, heaps, []), (thread,), (heaps, thread), (thread, tuple(heaps)),
                           (tuple(thread), heaps), (None, heaps), (thread, None), (thread[:-1], heaps), thread,
                           (thread, heaps[:-1]), (thread[:-1], heaps[:-1]), {0: thread, 1: heaps}, ((thread, heaps),),
                           (thread, [tuple(heap) for heap in heaps]), (thread + [None], heaps), None]
                for thing in things:
                    self.judged(side, top, asked, thing)

    def test_the_places_of_the_cut_rows(self):
        chance = random.Random(106)
        for side, top in ROWS:
            for asked in some_windows(chance, side, top, 12):
                first, last, begin, end = asked
                paper = window_paper(side, top, *asked)
                for down, right in ((-first, -begin), (first, begin), (1, 0), (0, 1), (-1, -1), (1, 1)):
                    self.judged(side, top, asked, moved(paper, down, right))

    def test_the_paper_of_another_window(self):
        chance = random.Random(107)
        for side, top in ROWS:
            for asked in some_windows(chance, side, top, 10):
                for other in some_windows(chance, side, top, 10):
                    self.judged(side, top, asked, window_paper(side, top, *other))

    def test_a_pair_from_without_the_window(self):
        for side, top, asked in (("aaaa", "aaaa", (1, 4, 0, 3)), ("aaaa", "aaaa", (0, 3, 1, 4)), ("aa", "aa", (0, 2, 1, 2))):
            first, last, begin, end = asked
            thread, heaps = window_paper(side, top, *asked)
            self.judged(side, top, asked, (thread, heaps))
            for pair in [(i, j) for i in range(len(side)) for j in range(len(top))]:
                if not (first <= pair[0] < last and begin <= pair[1] < end):
                    self.truth(False, shows_window, side, top, *asked, (thread, copied(heaps) + [[pair]]))
                    self.truth(False, shows_window, side, top, *asked, ([pair] + thread[1:], heaps))
                    for place in range(len(heaps)):
                        more = copied(heaps)
                        more[place].append(pair)
                        self.truth(False, shows_window, side, top, *asked, (thread, more))

    def test_any_thing(self):
        for side, top in (("", ""), ("a", "a"), ("aaa", "aa"), ("a.b", ".a.")):
            m, n = len(side), len(top)
            for asked in ((0, m, 0, n), (0, 0, n, n)):
                for thing in odd_things():
                    self.judged(side, top, asked, thing)
                    self.judged(side, top, asked, ([], thing))
                    self.judged(side, top, asked, (thing, []))
                    self.judged(side, top, asked, ([thing], [[thing]]))


THINGS = [([], []), ([(0, 0)], [[(0, 0)]]), None, [(0, 0)], "A", 0]


class Refused(Case):
    def both(self, error, fields, *handed):
        self.refuses(error, fields, window_paper, *handed)
        for thing in THINGS:
            self.refuses(error, fields, shows_window, *handed, thing)

    def test_rows_go_first(self):
        for thing in no_rows():
            for asked in ((0, 2, 0, 2), (1, 2, 1, 2), (2, 1, None, 0)):
                self.refuses(NoRow, {"found": thing}, window_paper, thing, "ab", *asked)
                self.refuses(NoRow, {"found": thing}, window_paper, "ab", thing, *asked)
                self.refuses(NoRow, {"found": thing}, window_paper, thing, None, *asked)
                self.refuses(NoRow, {"found": thing}, shows_window, thing, "ab", *asked, None)
                self.refuses(NoRow, {"found": thing}, shows_window, "ab", thing, *asked, ([], []))
                self.refuses(NoRow, {"found": thing}, shows_window, thing, "A", *asked, ([], []))

    def test_then_the_two_stretches(self):
        for side, top in (("", ""), ("ab", "b.a"), ("a" * 48, "")):
            m, n = len(side), len(top)
            for thing in odd_things() + [m + 1, n + 1, -1]:
                for one, other in ((thing, m), (0, thing), (thing, thing), (thing, None)):
                    fields = {"begin": one, "end": other}
                    if not span_by_reading(one, other, m):
                        for begin, end in ((0, n), (1, 0), (None, n)):
                            self.refuses(NoSpan, fields, window_paper, side, top, one, other, begin, end)
                            self.refuses(NoSpan, fields, shows_window, side, top, one, other, begin, end, None)
                    if not span_by_reading(one, other, n):
                        self.refuses(NoSpan, fields, window_paper, side, top, 0, m, one, other)
                        self.refuses(NoSpan, fields, window_paper, side, top, m, m, one, other)
                        self.refuses(NoSpan, fields, shows_window, side, top, m, m, one, other, ([], []))
        self.both(NoSpan, {"begin": 2, "end": 1}, "ab", "ab", 2, 1, 1, 0)
        self.both(NoSpan, {"begin": 1, "end": 0}, "ab", "ab", 1, 1, 1, 0)

    def test_then_no_window(self):
        for side, top in (("", ""), ("a", "a"), ("ab", "ba"), ("a.b", "ab."), ("ab", "")):
            right = set(windows(side, top))
            for first, last in spans(len(side)):
                for begin, end in spans(len(top)):
                    asked = (first, last, begin, end)
                    if asked in right:
                        continue
                    self.both(NoWindow, {}, side, top, *asked)
                    for call, more in ((window_paper, ()), (shows_window, (None,))):
                        try:
                            call(side, top, *asked, *more)
                        except NoWindow as error:
                            self.assertEqual(repr(error.found), repr(asked))


if __name__ == "__main__":
    unittest.main()
