"""Points [100] to [104], what [8] says of stretches apart, and panethread/apart.py."""

import itertools
import random
import unittest

from panethread.apart import apart, apart_near, shows_apart
from panethread.errors import NoPlace, NoPlain, NoStretches
from panethread.near import near

from common import Case, odd_things, plain_by_reading, two_rows, whole, within
from test_costs import FEW, LONG
from test_near import near_by_reading


def worthy_by_reading(many, thing):
    return (type(thing) is tuple and len(thing) == 3 and all(whole(number) for number in thing)
            and 1 <= thing[0] <= 1000000 and 0 <= thing[1] < thing[2] <= many)


def stretches_by_reading(many, thing):
    return type(thing) is list and len(thing) <= 400 and all(worthy_by_reading(many, one) for one in thing)


def apart_by_reading(stretches):
    held = [place for worth, begin, end in stretches for place in range(begin, end)]
    return len(held) == len(set(held))


def by_all_choices(stretches):
    """The most by trying all choices."""
    most = 0
    for chosen in itertools.product((False, True), repeat=len(stretches)):
        some = [one for one, taken in zip(stretches, chosen) if taken]
        if apart_by_reading(some):
            most = max(most, sum(one[0] for one in some))
    return most


def by_begins(many, stretches):
    """The most from the last place to the first one, by the stretches that begin there."""
    most = [0] * (many + 1)
    for place in reversed(range(many)):
        most[place] = max([most[place + 1]] + [worth + most[end] for worth, begin, end in stretches if begin == place])
    return most[0]


def shown_by_reading(many, stretches, thing):
    if type(thing) is not tuple or len(thing) != 3 or not whole(thing[0]):
        return False
    total, chosen, prices = thing
    if type(chosen) is not list or not all(within(place, 0, len(stretches) - 1) for place in chosen):
        return False
    if chosen != sorted(set(chosen)) or not apart_by_reading([stretches[place] for place in chosen]):
        return False
    if type(prices) is not list or len(prices) != many or not all(whole(price) and price >= 0 for price in prices):
        return False
    for worth, begin, end in stretches:
        if sum(prices[place] for place in range(begin, end)) < worth:
            return False
    return total == sum(prices) and total == sum(stretches[place][0] for place in chosen)


def drawn_stretches(chance, many, count, worth=9):
    made = []
    while many > 0 and len(made) < count:
        begin, end = sorted([chance.randint(0, many), chance.randint(0, many)])
        if begin < end:
            made.append((chance.randint(1, worth), begin, end))
            if chance.random() < 0.1 and len(made) < count:
                made.append(chance.choice(made))
    return made


def drawn_lines(seed, times=1):
    chance = random.Random(seed)
    made = [(many, []) for many in (0, 1, 5, 24)]
    for time in range(times):
        made += [(many, drawn_stretches(chance, many, count, worth)) for many in (1, 2, 3, 5, 9, 24)
                 for count in (1, 2, 4, 7, 12) for worth in (1, 3, 50)]
    return made


def great_lines():
    chance = random.Random(190)
    made = [(24, drawn_stretches(chance, 24, count, worth)) for count in (100, 300, 399, 400) for worth in (5, 1000, 1000000)]
    made += [(1, [(1000000, 0, 1)] * 400), (24, [(7, 0, 24)] * 400), (24, [(1000000, place % 24, place % 24 + 1) for place in range(400)])]
    made += [(24, [(end - begin, begin, end) for begin in range(24) for end in range(begin + 1, 25)])]
    return made


def spoilt_papers(paper, stretches, chance):
    """The same put otherwise at one place; a few of them are right still."""
    total, chosen, prices = paper
    made = [list(paper), paper[:2], paper + (0,), (paper,), None, (total, prices, chosen), (chosen, total, prices), total,
            (total, tuple(chosen), prices), (total, chosen, tuple(prices)), (total + 1, chosen, prices),
            (total - 1, chosen, prices), (None, chosen, prices), (str(total), chosen, prices), (total == 1, chosen, prices),
            ([total], chosen, prices), (-total, chosen, prices), (total, None, prices), (total, chosen, None),
            (total, {}, prices), (total, chosen[::-1], prices), (total, chosen + chosen, prices),
            (total, chosen + [len(stretches)], prices), (total, [-1] + chosen, prices), (total, chosen, prices + [0]),
            (total, chosen, prices[1:]), (total, chosen, prices[:-1]), (total, chosen, prices[::-1]), {0: paper},
            (total, chosen, [0] + prices), (total, [], prices), (0, [], [0] * len(prices)),
            (total, list(range(len(stretches))), prices)]
    for place, one in enumerate(chosen):
        others = [one + 1, one - 1, -1, len(stretches), None, str(one), one == 1, [one], (one,), one - len(stretches),
                  chance.randrange(len(stretches))]
        made += [(total, chosen[:place] + [other] + chosen[place + 1:], prices) for other in others]
        made += [(total, chosen[:place] + chosen[place + 1:], prices), (total, chosen[:place] + [one] + chosen[place:], prices)]
        made.append((total, sorted(chosen[:place] + [chance.randrange(len(stretches))] + chosen[place + 1:]), prices))
        made.append((total - stretches[one][0], chosen[:place] + chosen[place + 1:], prices))
    for place, price in enumerate(prices):
        others = [price + 1, price - 1, -1, None, str(price), price == 1, [price], (price,), 10 ** 39]
        made += [(total, chosen, prices[:place] + [other] + prices[place + 1:]) for other in others]
        made += [(total + 1, chosen, prices[:place] + [price + 1] + prices[place + 1:]),
                 (total - 1, chosen, prices[:place] + [price - 1] + prices[place + 1:])]
        if place + 1 < len(prices):
            moved = [price - 1, prices[place + 1] + 1]
            made.append((total, chosen, prices[:place] + moved + prices[place + 2:]))
            moved = [price + 1, prices[place + 1] - 1]
            made.append((total, chosen, prices[:place] + moved + prices[place + 2:]))
    return made


class Apart(Case):
    def check(self, many, stretches):
        told = apart(many, stretches)
        self.assertTrue(shown_by_reading(many, stretches, told), (many, stretches, told))
        self.truth(True, shows_apart, many, stretches, told)
        self.tells(told, apart, many, stretches)
        self.numbers(told[1])
        self.numbers(told[2])
        return told

    def test_drawn_stretches(self):
        for many, stretches in drawn_lines(191, 3):
            told = self.check(many, stretches)
            self.assertEqual(repr(told[0]), repr(by_begins(many, stretches)))
            if len(stretches) <= 7:
                self.assertEqual(told[0], by_all_choices(stretches))

    def test_up_to_400(self):
        for many, stretches in great_lines():
            told = self.check(many, stretches)
            self.assertEqual(repr(told[0]), repr(by_begins(many, stretches)))

    def test_no_stretches(self):
        for many in range(25):
            self.tells((0, [], [0] * many), apart, many, [])

    def test_some_plain_cases(self):
        self.tells((5, [0], [5]), apart, 1, [(5, 0, 1)])
        self.tells((5, [1], [5]), apart, 1, [(3, 0, 1), (5, 0, 1), (4, 0, 1)])
        self.assertEqual(apart(2, [(3, 1, 2), (4, 0, 1)])[:2], (7, [0, 1]))
        self.assertEqual(apart(3, [(2, 0, 2), (3, 1, 3), (2, 0, 1)])[:2], (5, [1, 2]))
        self.assertEqual(apart(4, [(2, 0, 2), (5, 1, 3), (2, 2, 4)])[:2], (5, [1]))
        self.assertEqual(apart(4, [(3, 0, 2), (5, 1, 3), (3, 2, 4)])[:2], (6, [0, 2]))

    def test_equal_stretches_are_two(self):
        told = self.check(3, [(2, 0, 3), (2, 0, 3), (2, 0, 3)])
        self.assertEqual(told[0], 2)
        self.assertEqual(len(told[1]), 1)
        for place in range(3):
            self.truth(True, shows_apart, 3, [(2, 0, 3)] * 3, (2, [place], [1, 1, 0]))
        self.truth(False, shows_apart, 3, [(2, 0, 3)] * 3, (4, [0, 1], [2, 2, 0]))

    def test_any_choice_and_any_prices(self):
        chance = random.Random(192)
        for many, stretches in drawn_lines(193):
            most = apart(many, stretches)[0]
            for time in range(5):
                some = [one for one in stretches if chance.random() < 0.3]
                if apart_by_reading(some):
                    self.assertLessEqual(sum(one[0] for one in some), most)

    def test_told_anew(self):
        for many, stretches in drawn_lines(194)[::4]:
            self.fresh(apart, many, stretches)

    def test_in_another_order(self):
        chance = random.Random(195)
        for many, stretches in drawn_lines(196)[::3]:
            other = list(stretches)
            chance.shuffle(other)
            self.assertEqual(self.check(many, other)[0], self.check(many, stretches)[0])


class ShowsApart(Case):
    def test_spoilt_at_one_place(self):
        chance = random.Random(197)
        right = 0
        for many, stretches in drawn_lines(198)[::2]:
            for thing in spoilt_papers(apart(many, stretches), stretches, chance):
                wanted = shown_by_reading(many, stretches, thing)
                right += wanted
                self.truth(wanted, shows_apart, many, stretches, thing)
        self.assertGreater(right, 50)

    def test_papers_of_other_stretches(self):
        lines = drawn_lines(199)[::6]
        for many, stretches in lines:
            for far, others in lines:
                paper = apart(far, others)
                self.truth(shown_by_reading(many, stretches, paper), shows_apart, many, stretches, paper)

    def test_other_right_papers(self):
        stretches = [(2, 0, 2), (2, 1, 3), (2, 0, 3)]
        for chosen in ([0], [1], [2]):
            for prices in ([0, 2, 0], [1, 1, 1], [2, 0, 0], [0, 0, 2], [0, 1, 1]):
                thing = (2, chosen, prices)
                self.truth(prices == [0, 2, 0], shows_apart, 3, stretches, thing)

    def test_those_that_touch_are_apart(self):
        stretches = [(1, 0, 2), (1, 2, 4)]
        self.truth(True, shows_apart, 4, stretches, (2, [0, 1], [1, 0, 0, 1]))
        self.truth(False, shows_apart, 4, [(1, 0, 3), (1, 2, 4)], (2, [0, 1], [1, 0, 0, 1]))

    def test_any_thing(self):
        for many, stretches in ((0, []), (1, []), (1, [(1, 0, 1)]), (2, [(1, 0, 1), (3, 0, 2)])):
            total, chosen, prices = apart(many, stretches)
            for thing in odd_things():
                for handed in (thing, (thing, chosen, prices), (total, thing, prices), (total, chosen, thing),
                               (total, [thing], prices), (total, chosen, [thing])):
                    self.truth(shown_by_reading(many, stretches, handed), shows_apart, many, stretches, handed)


def spoilt_stretches(many, stretches):
    made = [tuple(stretches), [stretches], {0: stretches}, None, stretches + [None], stretches + [[]], stretches + [()],
            stretches + [(1, 0, many + 1)], stretches + [(1, many, many)], [(1, 0, 0)] + stretches, [(0, 0, 1)] + stretches,
            stretches + [(1, 0, 1)] * (401 - len(stretches)), stretches + [(1000001, 0, many)]]
    for place in sorted({0, len(stretches) // 2, len(stretches) - 1} & set(range(len(stretches)))):
        worth, begin, end = one = stretches[place]
        others = [list(one), one[:2], one + (0,), (0, begin, end), (-1, begin, end), (1000000, begin, end),
                  (1000001, begin, end), (worth, end, begin), (worth, begin, begin), (worth, -1, end),
                  (worth, begin, many + 1), (worth, begin, many), (worth, 0, end), (True, begin, end), (worth, False, end),
                  (worth, begin, True), (None, begin, end), (worth, None, end), (worth, begin, None), (str(worth), begin, end),
                  (10 ** 39, begin, end), (worth, begin, 10 ** 39), {}, "abc", (one,), [one], 0, True, None]
        made += [stretches[:place] + [other] + stretches[place + 1:] for other in others]
    return made


class Refused(Case):
    def test_many_goes_first(self):
        for thing in odd_things() + [25, -1, "0"]:
            if not within(thing, 0, 24):
                for stretches in ([], [(1, 0, 1)], None, thing, [(0, 0, 0)]):
                    self.refuses(NoPlace, {"found": thing}, apart, thing, stretches)
                    self.refuses(NoPlace, {"found": thing}, shows_apart, thing, stretches, (0, [], []))
                    self.refuses(NoPlace, {"found": thing}, shows_apart, thing, stretches, None)

    def test_then_the_stretches(self):
        right = 0
        things = odd_things()
        for many, stretches in [(0, []), (1, [(1, 0, 1)]), (3, [(2, 0, 2), (3, 1, 3), (2, 0, 1)]), (24, [(5, 3, 9)] * 400)]:
            for thing in spoilt_stretches(many, stretches) + things:
                if stretches_by_reading(many, thing):
                    right += 1
                    self.assertTrue(shown_by_reading(many, thing, apart(many, thing)))
                    continue
                self.refuses(NoStretches, {"found": thing}, apart, many, thing)
                for paper in ((0, [], [0] * many), None, thing):
                    self.refuses(NoStretches, {"found": thing}, shows_apart, many, thing, paper)
        self.assertGreater(right, 5)

    def test_400_and_401(self):
        self.assertEqual(apart(2, [(1, 0, 1)] * 400)[0], 1)
        self.refuses(NoStretches, {}, apart, 2, [(1, 0, 1)] * 401)
        self.refuses(NoStretches, {}, shows_apart, 2, [(1, 0, 1)] * 401, (1, [0], [1, 0]))

    def test_where_there_are_no_places(self):
        self.tells((0, [], []), apart, 0, [])
        for stretch in ((1, 0, 0), (1, 0, 1), (1, -1, 0)):
            self.refuses(NoStretches, {}, apart, 0, [stretch])


class ApartNear(Case):
    def check(self, side, top, most):
        stretches = [(most + 1 - pay, begin, end) for pay, begin, end in near_by_reading(side, top, most)]
        told = apart_near(side, top, most)
        self.assertTrue(shown_by_reading(len(top), stretches, told), (side, top, most, told))
        self.truth(True, shows_apart, len(top), stretches, told)
        self.assertEqual(repr(told[0]), repr(by_begins(len(top), stretches)))
        self.assertEqual(apart(len(top), stretches)[0], told[0])
        chosen = [near(side, top, most)[place] for place in told[1]]
        self.assertEqual(sum(most + 1 - pay for pay, begin, end in chosen), told[0])

    def test_drawn_rows_and_limits(self):
        chance = random.Random(200)
        for side, top in FEW + two_rows(201, 12, 8, "ab") + two_rows(202, 12, 10, "abc"):
            for most in sorted({0, 1, 2, 3, 48, chance.randint(0, 48)}):
                self.check(side, top, most)

    def test_rows_of_24_letters(self):
        for side, top in LONG:
            for most in (0, 12, 48):
                self.check(side, top, most)

    def test_some_plain_cases(self):
        self.tells((0, [], []), apart_near, "abc", "", 48)
        self.tells((0, [], [0, 0]), apart_near, "", "ab", 0)
        self.assertEqual(apart_near("ab", "abxab", 0)[:2], (2, [0, 1]))
        self.assertEqual(apart_near("a", "aaa", 0)[:2], (3, [0, 1, 2]))
        for side, top in FEW:
            self.fresh(apart_near, side, top, 3)

    def test_refused_as_near_is(self):
        for thing in odd_things() + ["a.", "a" * 25, "A", 49, -1]:
            if not plain_by_reading(thing):
                for most in (0, 49, None):
                    self.refuses(NoPlain, {"found": thing}, apart_near, thing, "ab", most)
                    self.refuses(NoPlain, {"found": thing}, apart_near, thing, "A", most)
                    self.refuses(NoPlain, {"found": thing}, apart_near, "ab", thing, most)
            if not within(thing, 0, 48):
                for side, top in (("", ""), ("ab", "b"), ("a" * 24, "b" * 24)):
                    self.refuses(NoPlace, {"found": thing}, apart_near, side, top, thing)


if __name__ == "__main__":
    unittest.main()
