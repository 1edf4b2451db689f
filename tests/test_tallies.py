"""Points [50] and [51] and panethread/tallies.py."""

import random
import unittest

from panethread.errors import NoPlace, NoSpan, NoTurning
from panethread.tallies import Tally

from common import Case, odd_things, whole, within
from test_turnings import FEW, NO_TURNINGS, SOME, counted_by_reading, some_turning


def ranked_by_reading(turning, begin):
    return sorted(turning[s] for s in range(begin, len(turning)))


def inside_by_reading(turning, begin, last, low, high):
    return len([s for s in range(len(turning)) if begin <= s < last and low <= turning[s] < high])


def spans(many):
    return [(begin, end) for begin in range(many + 1) for end in range(begin, many + 1)]


def span_by_reading(begin, end, many):
    return whole(begin) and whole(end) and 0 <= begin <= end <= many


def some_span(chance, many):
    return tuple(sorted([chance.randint(0, many), chance.randint(0, many)]))


DRAWN = [some_turning(random.Random(70 + many), many) for many in (8, 16, 17, 31, 32, 33, 47, 64, 65, 95, 96)]


class Answers(Case):
    def check_all(self, turning, tally):
        many = len(turning)
        for begin in range(many + 1):
            for end in range(many + 1):
                self.assertEqual(repr(tally.below(begin, end)), repr(counted_by_reading(turning, begin, end)))
            for rank, end in enumerate(ranked_by_reading(turning, begin)):
                self.assertEqual(repr(tally.ranked(begin, rank)), repr(end))

    def test_below_and_ranked(self):
        for turning in SOME + DRAWN:
            self.check_all(turning, Tally(turning))
            self.check_all(turning, Tally(tuple(turning)))

    def test_inside_all(self):
        for turning in FEW:
            if len(turning) > 6:
                continue
            tally = Tally(turning)
            for begin, last in spans(len(turning)):
                for low, high in spans(len(turning)):
                    wanted = inside_by_reading(turning, begin, last, low, high)
                    self.tells(wanted, tally.inside, begin, last, low, high)

    def test_inside_drawn(self):
        chance = random.Random(81)
        for turning in SOME[-6:] + DRAWN:
            tally = Tally(tuple(turning))
            many = len(turning)
            whole_span = (0, many)
            tried = [(whole_span, whole_span), (whole_span, (0, 0)), ((many, many), whole_span)]
            tried += [(some_span(chance, many), some_span(chance, many)) for time in range(400)]
            for (begin, last), (low, high) in tried:
                wanted = inside_by_reading(turning, begin, last, low, high)
                self.assertEqual(repr(tally.inside(begin, last, low, high)), repr(wanted))

    def test_some_plain_cases(self):
        tally = Tally([2, 0, 3, 1])
        self.tells(4, tally.below, 0, 4)
        self.tells(0, tally.below, 4, 4)
        self.tells(0, tally.below, 0, 0)
        self.tells(2, tally.below, 1, 2)
        self.tells(1, tally.below, 2, 2)
        self.tells(1, tally.ranked, 2, 0)
        self.tells(3, tally.ranked, 2, 1)
        self.tells(2, tally.ranked, 0, 2)
        self.tells(1, tally.inside, 0, 2, 1, 3)
        self.tells(2, tally.inside, 1, 4, 1, 4)
        self.tells(0, tally.inside, 2, 2, 0, 4)
        self.tells(0, Tally([]).below, 0, 0)
        self.tells(0, Tally(()).inside, 0, 0, 0, 0)


class AskedAgain(Case):
    def told(self, tally, many):
        chance = random.Random(82)
        told = [tally.below(begin, end) for begin in range(many + 1) for end in range(many + 1)]
        told += [tally.ranked(begin, rank) for begin in range(many) for rank in range(many - begin)]
        for time in range(50):
            begin, last = some_span(chance, many)
            low, high = some_span(chance, many)
            told.append(tally.inside(begin, last, low, high))
        return repr(told)

    def test_the_same_answer(self):
        for turning in FEW + DRAWN[:4]:
            tally = Tally(turning)
            told = self.told(tally, len(turning))
            self.assertEqual(self.told(tally, len(turning)), told)
            self.assertEqual(self.told(Tally(tuple(turning)), len(turning)), told)

    def test_behind_a_change_of_the_list(self):
        for turning in FEW + DRAWN:
            handed = list(turning)
            tally = Tally(handed)
            self.assertEqual(handed, turning)
            told = self.told(Tally(turning), len(turning))
            handed.reverse()
            self.assertEqual(self.told(tally, len(turning)), told)
            handed.clear()
            self.assertEqual(self.told(tally, len(turning)), told)
            handed.extend([0] * 97)
            self.assertEqual(self.told(tally, len(turning)), told)

    def test_two_of_one_list(self):
        handed = [1, 2, 0]
        one = Tally(handed)
        handed[0], handed[2] = 0, 1
        other = Tally(handed)
        self.tells(0, one.ranked, 2, 0)
        self.tells(1, other.ranked, 2, 0)
        self.tells(0, one.ranked, 2, 0)

    def test_refusals_change_nothing(self):
        for turning in ([], [1, 0], [2, 0, 1]):
            tally = Tally(turning)
            told = self.told(tally, len(turning))
            for thing in (-1, 4, None, "0"):
                self.refuses(NoPlace, {"found": thing}, tally.below, thing, thing)
                self.refuses(NoPlace, {"found": thing}, tally.ranked, thing, thing)
                self.refuses(NoSpan, {"begin": thing, "end": thing}, tally.inside, thing, thing, thing, thing)
            self.assertEqual(self.told(tally, len(turning)), told)


class Refused(Case):
    def test_no_turning(self):
        for thing in NO_TURNINGS:
            self.refuses(NoTurning, {"found": thing}, Tally, thing)

    def test_below(self):
        for turning in ([], [0], (1, 0), [2, 0, 1], list(range(96))):
            tally, many = Tally(turning), len(turning)
            for thing in odd_things() + [many + 1, -1, "0", -many - 1]:
                if within(thing, 0, many):
                    continue
                for other in (0, many, many + 1, None, thing):
                    self.refuses(NoPlace, {"found": thing}, tally.below, thing, other)
                self.refuses(NoPlace, {"found": thing}, tally.below, 0, thing)
                self.refuses(NoPlace, {"found": thing}, tally.below, many, thing)

    def test_ranked(self):
        for turning in ([], [0], (1, 0), [2, 0, 1], list(range(96))):
            tally, many = Tally(turning), len(turning)
            for thing in odd_things() + [many + 1, -1, "0", -many - 1]:
                if not within(thing, 0, many):
                    for rank in (0, many, -1, None, thing):
                        self.refuses(NoPlace, {"found": thing}, tally.ranked, thing, rank)
                for begin in sorted({0, many // 2, max(many - 1, 0)}):
                    if not within(thing, 0, many - begin - 1):
                        self.refuses(NoPlace, {"found": thing}, tally.ranked, begin, thing)
                self.refuses(NoPlace, {"found": thing}, tally.ranked, many, thing)

    def test_each_rank_where_begin_is_the_number_of_lines(self):
        for turning in SOME + DRAWN:
            tally, many = Tally(turning), len(turning)
            for rank in range(-2, many + 2):
                self.refuses(NoPlace, {"found": rank}, tally.ranked, many, rank)

    def test_the_first_rank_that_is_too_great(self):
        for turning in FEW + DRAWN[:3]:
            tally, many = Tally(turning), len(turning)
            for begin in range(many):
                self.tells(max(turning[begin:]), tally.ranked, begin, many - begin - 1)
                self.refuses(NoPlace, {}, tally.ranked, begin, many - begin)
                self.refuses(NoPlace, {}, tally.ranked, begin, -1)

    def test_inside(self):
        for turning in ([], [0], [2, 0, 1], list(range(96))):
            tally, many = Tally(turning), len(turning)
            wrong = [(thing, other) for thing in odd_things() for other in (0, many, thing)]
            wrong += [(0, thing) for thing in odd_things()]
            wrong += [(0, many + 1), (-1, many), (1, 0), (many, many - 1), (many + 1, many + 1), (True, 1), (0, True)]
            for begin, last in wrong:
                if span_by_reading(begin, last, many):
                    continue
                fields = {"begin": begin, "end": last}
                for low, high in ((0, many), (many, many), (1, 0), (None, None), (many + 1, many)):
                    self.refuses(NoSpan, fields, tally.inside, begin, last, low, high)
                self.refuses(NoSpan, fields, tally.inside, 0, many, begin, last)
                self.refuses(NoSpan, fields, tally.inside, many, many, begin, last)


if __name__ == "__main__":
    unittest.main()
