"""Points [30] to [34] and panethread/turnings.py."""

import itertools
import random
import unittest

from panethread.errors import NoCounts, NoPlace, NoTurning
from panethread.turnings import about, counted, counts, crossings, from_counts, is_turning, opposite, straight

from common import Case, odd_things, whole, within


def turning_by_reading(thing):
    return (type(thing) in (list, tuple) and len(thing) <= 96 and all(whole(end) for end in thing)
            and sorted(thing) == list(range(len(thing))))


def some_turning(chance, many):
    turning = list(range(many))
    chance.shuffle(turning)
    return turning


def turnings(seed):
    """All turnings of at most four lines, and greater ones."""
    chance = random.Random(seed)
    made = [list(turning) for many in range(5) for turning in itertools.permutations(range(many))]
    made += [some_turning(chance, many) for many in (5, 6, 7, 9, 12, 20)]
    made += [list(range(96)), list(reversed(range(96))), some_turning(chance, 96), some_turning(chance, 95)]
    return made


def no_turnings():
    made = [thing for thing in odd_things() if not turning_by_reading(thing)]
    made += [[0, 0], [1, 1], [1, 2], [0, 2], [-1, 0], [0, -1], [True, 0], [False, True], [0, True], [1, False], [None],
             ["0"], [[0]], [0, [1]], [(0,)], {0: 0}, "01", [0, 1, 2, 2], [10 ** 39], [-(10 ** 39), 0],
             list(range(97)), tuple(range(97)), list(reversed(range(97))), list(range(1, 97)), [0] * 96, (0, 0), (1, 2),
             (True, 0), (None,), ((0,),)]
    return made


def counted_by_reading(turning, begin, end):
    return len([s for s in range(len(turning)) if s >= begin and turning[s] < end])


def counts_by_reading(turning):
    many = len(turning)
    return [[counted_by_reading(turning, begin, end) for end in range(many + 1)] for begin in range(many + 1)]


def are_counts_by_reading(thing):
    """Differences both ways tell for each begin and end whether a line has both: one of each, and noughts at the edge."""
    if type(thing) is not list or not 1 <= len(thing) <= 97:
        return False
    many = len(thing) - 1
    if not all(type(row) is list and len(row) == many + 1 and all(whole(number) for number in row) for row in thing):
        return False
    lines = [[thing[s][e + 1] - thing[s + 1][e + 1] - thing[s][e] + thing[s + 1][e] for e in range(many)]
             for s in range(many)]
    ones = [0] * (many - 1) + [1]
    return (not any(thing[many]) and not any(row[0] for row in thing) and all(sorted(row) == ones for row in lines)
            and all(sorted(column) == ones for column in zip(*lines)))


SOME = turnings(40)
FEW = [turning for turning in SOME if len(turning) <= 12]
NO_TURNINGS = no_turnings()


class Turnings(Case):
    def test_what_is_one(self):
        for turning in SOME:
            self.truth(True, is_turning, turning)
            self.truth(True, is_turning, tuple(turning))
        for many in range(90, 100):
            self.truth(many <= 96, is_turning, list(range(many)))
            self.truth(many <= 96, is_turning, tuple(reversed(range(many))))

    def test_what_is_none(self):
        for thing in NO_TURNINGS:
            self.truth(False, is_turning, thing)
        for thing in odd_things():
            self.truth(turning_by_reading(thing), is_turning, thing)

    def test_spoilt_in_one_place(self):
        for turning in FEW + [SOME[-1], SOME[-2]]:
            for place, end in enumerate(turning):
                others = [end + 1, end - 1, -1, len(turning), True, False, None, str(end), [end], (end,), end - len(turning)]
                for other in others:
                    thing = turning[:place] + [other] + turning[place + 1:]
                    self.truth(turning_by_reading(thing), is_turning, thing)
                    self.truth(turning_by_reading(thing), is_turning, tuple(thing))

    def test_straight(self):
        for many in range(97):
            self.tells(list(range(many)), straight, many)
        self.fresh(straight, 96)
        self.fresh(straight, 0)
        for thing in odd_things() + ["3", [3], (3,), 3 - 4, 98, 1000]:
            if not within(thing, 0, 96):
                self.refuses(NoPlace, {"found": thing}, straight, thing)

    def test_opposite(self):
        self.tells([], opposite, [])
        self.tells([2, 0, 1], opposite, [1, 2, 0])
        for turning in SOME:
            wanted = [turning.index(end) for end in range(len(turning))]
            self.tells(wanted, opposite, turning)
            self.tells(wanted, opposite, tuple(turning))
            self.fresh(opposite, turning)

    def test_about(self):
        self.tells([], about, [])
        self.tells([2, 0, 1], about, [1, 2, 0])
        for turning in SOME:
            many = len(turning)
            wanted = [None] * many
            for s, e in enumerate(turning):
                wanted[many - 1 - s] = many - 1 - e
            self.tells(wanted, about, turning)
            self.tells(wanted, about, tuple(turning))
            self.fresh(about, turning)

    def test_refused(self):
        for thing in NO_TURNINGS:
            for call in (opposite, about, counts, crossings):
                self.refuses(NoTurning, {"found": thing}, call, thing)
            for begin, end in ((0, 0), (-1, 0), (0, 97), (None, True), (thing, thing)):
                self.refuses(NoTurning, {"found": thing}, counted, thing, begin, end)


class Counts(Case):
    def test_counted(self):
        for turning in FEW:
            for begin in range(len(turning) + 1):
                for end in range(len(turning) + 1):
                    wanted = counted_by_reading(turning, begin, end)
                    self.tells(wanted, counted, turning, begin, end)
                    self.tells(wanted, counted, tuple(turning), begin, end)
        for turning in SOME:
            many = len(turning)
            for begin in (0, many // 3, many):
                for end in (0, many // 2, many):
                    self.tells(counted_by_reading(turning, begin, end), counted, turning, begin, end)

    def test_counted_out_of_bounds(self):
        for turning in ([], [0], [1, 0, 2], tuple(range(95)), list(range(96))):
            many = len(turning)
            for thing in odd_things() + [many + 1, -1, "0"]:
                if not within(thing, 0, many):
                    for good in (0, many):
                        self.refuses(NoPlace, {"found": thing}, counted, turning, thing, good)
                        self.refuses(NoPlace, {"found": thing}, counted, turning, good, thing)
                    self.refuses(NoPlace, {"found": thing}, counted, turning, thing, None)
                    self.refuses(NoPlace, {"found": thing}, counted, turning, thing, -5)

    def test_counts(self):
        self.tells([[0]], counts, [])
        self.tells([[0, 1], [0, 0]], counts, [0])
        for turning in SOME:
            wanted = counts_by_reading(turning)
            self.tells(wanted, counts, turning)
            self.tells(wanted, counts, tuple(turning))
        for turning in FEW[:20]:
            self.fresh(counts, turning)
        self.fresh(counts, list(range(96)))

    def test_from_counts(self):
        for turning in SOME:
            self.tells(turning, from_counts, counts_by_reading(turning))
            self.fresh(from_counts, counts_by_reading(turning))

    def judged(self, thing):
        if are_counts_by_reading(thing):
            self.assertEqual(counts_by_reading(from_counts(thing)), thing)
        else:
            self.refuses(NoCounts, {"found": thing}, from_counts, thing)

    def test_what_are_no_counts(self):
        for thing in odd_things():
            self.judged(thing)
        for thing in ([[0, 0], [0, 0]], [[1]], [[-1]], [[0, 1]], [[0], [0]], [[]], [[False]], [[0, True], [0, 0]],
                      [[0, 1], [False, 0]], [(0,)], ([0],), [[0, 1], (0, 0)], [[0, 1], [0]], [[0, 1], [0, 0, 0]],
                      [[0, 1], [0, 0], [0, 0]], [[None]], [["0"]], [[[0]]], {0: [0]}, [{0: 0}], [None], [[0, 1], None],
                      [[0, 2], [0, 1]], [[1, 2], [1, 1]], [[0, 2], [0, 0]], [[0, 0, 0], [0, 0, 0], [0, 0, 0]],
                      [[0, 1, 2], [0, 1, 2], [0, 0, 0]], [[0, 1, 2], [0, 0, 0], [0, 0, 0]],
                      [[0, 1, 1], [0, 0, 1], [0, 0, 0]]):
            self.judged(thing)

    def test_spoilt_in_one_place(self):
        for turning in FEW:
            table = counts_by_reading(turning)
            for place, row in enumerate(table):
                self.spoilt_row(table, place)
                spots = range(len(row)) if len(row) < 6 else (0, 1, len(row) // 2, len(row) - 1)
                for spot in spots:
                    self.spoilt_number(table, place, spot)
            for thing in (tuple(table), [tuple(row) for row in table], table + [[0] * len(table)], table[1:], table[:-1],
                          [row[1:] for row in table], [row[:-1] for row in table], [row + [0] for row in table],
                          [row + row[-1:] for row in table], [row[1:] for row in table[1:]], table + table[-1:]):
                self.judged(thing)

    def spoilt_number(self, table, place, spot):
        number = table[place][spot]
        others = [number + 1, number - 1, -number - 1, None, str(number), [number], (number,), {}, 10 ** 39]
        if number < 2:
            others.append(bool(number))
        for other in others:
            row = table[place][:spot] + [other] + table[place][spot + 1:]
            self.judged(table[:place] + [row] + table[place + 1:])

    def spoilt_row(self, table, place):
        row = table[place]
        for others in ([], [row, row], [tuple(row)], [None], [row + [row[-1]]], [row + [0]], [row[:-1]], [row[1:]],
                       [list(reversed(row))], [[number + 1 for number in row]], [[0] * len(row)], [{}], [str(row)]):
            self.judged(table[:place] + others + table[place + 1:])
        if place > 0:
            exchanged = table[:place - 1] + [table[place], table[place - 1]] + table[place + 1:]
            self.judged(exchanged)

    def test_too_many_lines(self):
        for turning in (list(range(97)), list(reversed(range(97)))):
            table = counts_by_reading(turning)
            self.refuses(NoCounts, {"found": table}, from_counts, table)

    def test_spoilt_with_many_lines(self):
        table = counts_by_reading(SOME[-2])
        for place, spot in ((0, 0), (0, 96), (96, 0), (96, 96), (40, 50), (95, 96)):
            for change in (1, -1):
                spoilt = [list(row) for row in table]
                spoilt[place][spot] += change
                self.refuses(NoCounts, {"found": spoilt}, from_counts, spoilt)


class Crossings(Case):
    def test_crossings(self):
        self.tells([], crossings, [])
        self.tells([], crossings, [0, 1])
        self.tells([(0, 1)], crossings, (1, 0))
        self.tells([(0, 2), (1, 2)], crossings, [1, 2, 0])
        for turning in SOME:
            many = len(turning)
            wanted = [(x, y) for x in range(many) for y in range(many) if x < y and turning[x] > turning[y]]
            self.tells(wanted, crossings, turning)
            self.tells(wanted, crossings, tuple(turning))
            self.fresh(crossings, turning)


if __name__ == "__main__":
    unittest.main()
