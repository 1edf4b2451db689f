"""Points [35] to [39] and panethread/laying.py."""

import itertools
import random
import unittest

from panethread.errors import NoPlace, NoSteps, NoTurning, Unlike
from panethread.laying import by_steps, laid, middle, steps_of, working_steps
from panethread.turnings import about, crossings, opposite

from common import Case, odd_things, whole, within
from test_turnings import NO_TURNINGS, SOME, counts_by_reading, some_turning


def steps_by_reading(many, thing):
    return (type(thing) is list and len(thing) <= 6000
            and all(whole(step) and 0 <= step <= many - 2 for step in thing))


def step_done(turning, step):
    """One step as [35] tells it, done to a turning; told too is whether it did something."""
    one, other = sorted([turning.index(step), turning.index(step + 1)])
    done = list(turning)
    done[one], done[other] = step + 1, step
    return done, done != turning


def steps_done(turning, steps):
    working = []
    for place, step in enumerate(steps):
        turning, something = step_done(turning, step)
        if something:
            working.append(place)
    return turning, working


def steps_by_chance(turning, chance):
    """Other steps that come to a turning, each doing something: crossings are taken back in any order."""
    at = [turning.index(end) for end in range(len(turning))]
    back = []
    while at != sorted(at):
        step = chance.choice([p for p in range(len(at) - 1) if at[p] > at[p + 1]])
        at[step], at[step + 1] = at[step + 1], at[step]
        back.append(step)
    return back[::-1]


def sums_by_reading(one, other):
    """For each begin and end the sums of [37], by middles."""
    many = len(one)
    first, second = counts_by_reading(one), counts_by_reading(other)
    columns = [list(column) for column in zip(*second)]
    return [[[x + y for x, y in zip(first[begin], columns[end])] for end in range(many + 1)]
            for begin in range(many + 1)]


def least_sums(one, other):
    return [[min(sums) for sums in row] for row in sums_by_reading(one, other)]


def two_turnings(seed):
    chance = random.Random(seed)
    made = [(list(one), list(other)) for many in range(4) for one in itertools.permutations(range(many))
            for other in itertools.permutations(range(many))]
    for many in (4, 4, 4, 5, 5, 5, 6, 6, 7, 8, 10, 13, 20):
        made.append((some_turning(chance, many), some_turning(chance, many)))
    return made


PAIRS = two_turnings(50)
GREAT = [(some_turning(random.Random(51), 96), some_turning(random.Random(52), 96)),
         (list(reversed(range(96))), some_turning(random.Random(53), 96)),
         ([95] + list(range(95)), list(range(1, 96)) + [0])]


class Steps(Case):
    def test_of_all_kinds(self):
        chance = random.Random(54)
        for many in (2, 3, 4, 5, 9, 30, 96):
            for length in (0, 1, 2, 5, 40, 300):
                steps = [chance.randint(0, many - 2) for place in range(length)]
                turning, working = steps_done(list(range(many)), steps)
                self.tells(turning, by_steps, many, steps)
                self.tells(working, working_steps, many, steps)
                self.fresh(by_steps, many, steps)
                self.fresh(working_steps, many, steps)

    def test_all_short_ones(self):
        for many in (2, 3, 4):
            for length in range(6):
                for steps in itertools.product(range(many - 1), repeat=length):
                    turning, working = steps_done(list(range(many)), list(steps))
                    self.tells(turning, by_steps, many, list(steps))
                    self.tells(working, working_steps, many, list(steps))

    def test_steps_that_do_nothing(self):
        self.tells([1, 0], by_steps, 2, [0, 0, 0])
        self.tells([0], working_steps, 2, [0, 0, 0])
        self.tells([2, 1, 0], by_steps, 3, [0, 1, 0, 1, 0])
        self.tells([0, 1, 2], working_steps, 3, [0, 1, 0, 1, 0])
        self.tells([2, 0, 1], by_steps, 3, [0, 0, 1])
        self.tells([0, 2], working_steps, 3, [0, 0, 1])

    def test_no_line_and_one_line(self):
        for many in (0, 1):
            self.tells(list(range(many)), by_steps, many, [])
            self.tells([], working_steps, many, [])
            for thing in odd_things() + [[0], [-1], [-2], [0, 0], [1]]:
                if thing != []:
                    self.refuses(NoSteps, {"found": thing}, by_steps, many, thing)
                    self.refuses(NoSteps, {"found": thing}, working_steps, many, thing)

    def test_how_many(self):
        self.tells([1, 0], by_steps, 2, [0] * 6000)
        self.tells([0], working_steps, 2, [0] * 6000)
        around = (list(range(95)) * 64)[:6000]
        self.assertEqual(by_steps(96, around), steps_done(list(range(96)), around)[0])
        self.assertEqual(working_steps(96, around), steps_done(list(range(96)), around)[1])
        for many in (2, 96):
            for steps in ([0] * 6001, [0] * 19999):
                self.refuses(NoSteps, {"found": steps}, by_steps, many, steps)
                self.refuses(NoSteps, {"found": steps}, working_steps, many, steps)

    def test_all_of_96_lines(self):
        steps = [step for last in reversed(range(95)) for step in range(last + 1)]
        self.tells(list(reversed(range(96))), by_steps, 96, steps)
        self.tells(list(range(4560)), working_steps, 96, steps)

    def test_what_are_no_steps(self):
        for many in (2, 3, 5, 96):
            things = odd_things() + [[many - 1], [many], [-1], [0, many - 1], [many - 1, 0], (0,), ((0,),), [True], [False],
                                     [None], ["0"], [[0]], [(0,)], {0: 0}, "0", [0, None], [many - 2, True], [10 ** 39]]
            for thing in things:
                if steps_by_reading(many, thing):
                    turning, working = steps_done(list(range(many)), thing[:6000])
                    self.tells(turning, by_steps, many, thing)
                    self.tells(working, working_steps, many, thing)
                else:
                    self.refuses(NoSteps, {"found": thing}, by_steps, many, thing)
                    self.refuses(NoSteps, {"found": thing}, working_steps, many, thing)
            last = list(range(many - 2)) + [many - 1, many - 2]
            self.tells(last, by_steps, many, [many - 2])

    def test_no_place_goes_ahead(self):
        for thing in odd_things() + [97, -1, "3", [3]]:
            if not within(thing, 0, 96):
                for steps in ([], [0], None, (), [None], thing):
                    self.refuses(NoPlace, {"found": thing}, by_steps, thing, steps)
                    self.refuses(NoPlace, {"found": thing}, working_steps, thing, steps)


class StepsOf(Case):
    def test_they_come_to_the_turning(self):
        for turning in SOME:
            for handed in (turning, tuple(turning)):
                steps = steps_of(handed)
                self.numbers(steps)
                self.assertTrue(steps_by_reading(len(turning), steps), steps)
                done, working = steps_done(list(range(len(turning))), steps)
                self.assertEqual(done, turning)
                self.assertEqual(working, list(range(len(steps))))
                self.assertEqual(len(steps), len(crossings(turning)))
                self.tells(turning, by_steps, len(turning), steps)
                self.tells(working, working_steps, len(turning), steps)
            self.fresh(steps_of, turning)

    def test_straight_and_reversed(self):
        self.tells([], steps_of, [])
        self.tells([], steps_of, [0])
        self.tells([], steps_of, list(range(96)))
        self.tells([0], steps_of, (1, 0))
        self.assertEqual(len(steps_of(list(reversed(range(96))))), 4560)

    def test_refused(self):
        for thing in NO_TURNINGS:
            self.refuses(NoTurning, {"found": thing}, steps_of, thing)


class Laid(Case):
    def test_the_least_sums(self):
        for one, other in PAIRS + GREAT:
            told = laid(one, other)
            self.numbers(told)
            self.assertEqual(sorted(told), list(range(len(one))))
            self.assertEqual(counts_by_reading(told), least_sums(one, other), (one, other))
            self.tells(told, laid, tuple(one), other)
            self.tells(told, laid, one, tuple(other))
            self.tells(told, laid, tuple(one), tuple(other))
            self.fresh(laid, one, other)

    def test_steps_of_the_other_one(self):
        chance = random.Random(55)
        for one, other in PAIRS:
            for steps in (steps_of(other), steps_by_chance(other, chance), steps_by_chance(other, chance)):
                self.assertEqual(laid(one, other), steps_done(one, steps)[0], (one, other, steps))

    def test_straight_on_either_side(self):
        for turning in SOME:
            even = list(range(len(turning)))
            self.tells(turning, laid, turning, even)
            self.tells(turning, laid, even, turning)
            self.fresh(laid, turning, even)
            self.fresh(laid, even, turning)

    def test_brackets(self):
        chance = random.Random(56)
        for many in (0, 1, 2, 3, 4, 5, 6, 9, 15, 96):
            for time in range(3 if many > 20 else 12):
                one, other, third = [some_turning(chance, many) for place in range(3)]
                self.assertEqual(laid(laid(one, other), third), laid(one, laid(other, third)))

    def test_opposites_and_seen_about(self):
        for one, other in PAIRS + GREAT:
            self.assertEqual(opposite(laid(one, other)), laid(opposite(other), opposite(one)))
            self.assertEqual(about(laid(one, other)), laid(about(one), about(other)))

    def test_crossings(self):
        for one, other in PAIRS + GREAT:
            told = crossings(laid(one, other))
            self.assertLessEqual(set(crossings(one)), set(told))
            self.assertLessEqual(len(told), len(crossings(one)) + len(crossings(other)))

    def test_some_plain_cases(self):
        self.tells([], laid, [], [])
        self.tells([], laid, (), ())
        self.tells([1, 0], laid, [1, 0], [1, 0])
        self.tells([2, 0, 1], laid, [1, 0, 2], [0, 2, 1])
        self.tells([1, 2, 0], laid, [0, 2, 1], [1, 0, 2])


class Middle(Case):
    def test_the_least_one(self):
        for one, other in PAIRS:
            sums = sums_by_reading(one, other)
            for begin in range(len(one) + 1):
                for end in range(len(one) + 1):
                    told = sums[begin][end]
                    wanted = told.index(min(told))
                    self.tells(wanted, middle, one, other, begin, end)
                    self.tells(wanted, middle, tuple(one), tuple(other), begin, end)

    def test_96_lines(self):
        for one, other in GREAT:
            sums = sums_by_reading(one, other)
            for begin in (0, 1, 17, 48, 95, 96):
                for end in (0, 1, 30, 48, 95, 96):
                    told = sums[begin][end]
                    self.tells(told.index(min(told)), middle, one, other, begin, end)

    def test_no_lines(self):
        self.tells(0, middle, [], [], 0, 0)


class Refused(Case):
    def calls(self):
        return [laid] + [lambda one, other, begin=begin, end=end: middle(one, other, begin, end)
                         for begin, end in ((0, 0), (None, -1), (97, []))]

    def test_no_turning_of_one_then_of_other(self):
        for thing in NO_TURNINGS:
            for call in self.calls():
                for other in ([0], [1, 0], None, [0, 0], list(range(97))):
                    self.refuses(NoTurning, {"found": thing}, call, thing, other)
                for one in ([], [1, 0], tuple(range(96))):
                    self.refuses(NoTurning, {"found": thing}, call, one, thing)

    def test_unlike(self):
        for one, other in (([], [0]), ([0], []), ([1, 0], (0, 1, 2)), (tuple(range(96)), list(range(95))), ([], (1, 0))):
            for call in self.calls():
                self.refuses(Unlike, {}, call, one, other)
                try:
                    call(one, other)
                except Unlike as error:
                    self.assertEqual(repr((error.one, error.other)), repr((len(one), len(other))))

    def test_no_place_of_begin_then_of_end(self):
        for one, other in (([], []), ([0], [0]), ([1, 0, 2], (0, 2, 1)), (list(range(96)), list(range(96)))):
            many = len(one)
            for thing in odd_things() + [many + 1, -1, "0"]:
                if not within(thing, 0, many):
                    for good in (0, many):
                        self.refuses(NoPlace, {"found": thing}, middle, one, other, thing, good)
                        self.refuses(NoPlace, {"found": thing}, middle, one, other, good, thing)
                    self.refuses(NoPlace, {"found": thing}, middle, one, other, thing, None)
                    self.refuses(NoPlace, {"found": thing}, middle, one, other, thing, -7)


if __name__ == "__main__":
    unittest.main()
