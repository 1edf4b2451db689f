"""Points [114] to [117], what [9] says of what a row says twice, and panethread/twice.py."""

import random
import unittest

from panethread.asks import asks_of
from panethread.errors import NoPlain
from panethread.heaps import heaps_of
from panethread.twice import shows_twice, twice, twice_lengths

from common import (Case, longest_by_least_ends, odd_things, plain_by_reading, some_row, thread_by_reading, whole,
                    within)
from test_heaps import heaps_by_reading, peeled, spoilt_heaps, stirred

FEW = ["", "a", "aa", "ab", "aba", "abab", "abcabc", "aabb", "abba", "aaaaa", "abcde", "cabcab", "xaybzaxb"]
LONG = ["a" * 24, "ab" * 12, "abcdefghijkl" * 2, "abcdefghijklmnopqrstuvwx", "thequickbrownfoxjumpsove", "a" * 12 + "b" * 12]


def drawn_rows(seed):
    chance = random.Random(seed)
    return [some_row(chance, many, letters) for many in range(2, 12) for letters in ("ab", "abcd")]


ROWS = FEW + drawn_rows(220) + LONG


def lengths_by_reading(row):
    return [longest_by_least_ends(row[:cut], row[cut:]) for cut in range(len(row) + 1)]


def heaps_of_cuts(row, heaps):
    """The heaps of each cut by another file or another way, their second numbers moved."""
    return [[[(i, j + cut) for i, j in heap] for heap in heaps(row[:cut], row[cut:])] for cut in range(len(row) + 1)]


def said_by_reading(row, cut, firsts, seconds):
    """The words of [114], place by place."""
    if not within(cut, 0, len(row)) or type(firsts) is not list or type(seconds) is not list:
        return False
    if len(firsts) != len(seconds) or not all(whole(place) for place in firsts + seconds):
        return False
    if firsts != sorted(set(firsts)) or seconds != sorted(set(seconds)):
        return False
    if not all(0 <= place < cut for place in firsts) or not all(cut <= place < len(row) for place in seconds):
        return False
    return [row[place] for place in firsts] == [row[place] for place in seconds]


def cut_by_reading(row, cut, thing):
    """Whether a thing is the heaps of a cut, each pair's second number taken less by the cut."""
    if type(thing) is not list:
        return False
    for heap in thing:
        if type(heap) is not list:
            return False
        for pair in heap:
            if type(pair) is not tuple or len(pair) != 2 or not whole(pair[0]) or not whole(pair[1]):
                return False
    return heaps_by_reading(row[:cut], row[cut:], [[(i, j - cut) for i, j in heap] for heap in thing])


def shown_by_reading(row, thing):
    if type(thing) is not tuple or len(thing) != 4 or not said_by_reading(row, thing[0], thing[1], thing[2]):
        return False
    cut, firsts, seconds, heaps = thing
    if type(heaps) is not list or len(heaps) != len(row) + 1:
        return False
    if not all(cut_by_reading(row, other, part) for other, part in enumerate(heaps)):
        return False
    return all(len(part) <= len(firsts) for part in heaps) and all(len(part) < len(firsts) for part in heaps[:cut])


def spoilt_numbers(numbers):
    made = [tuple(numbers), None, numbers + [0], numbers[:-1], numbers[1:], numbers[::-1], [numbers], {}, numbers + numbers]
    for place, number in enumerate(numbers):
        for other in (number + 1, number - 1, -1, None, str(number), number == 1, number == 0, [number], 24, number - 24):
            made.append(numbers[:place] + [other] + numbers[place + 1:])
        made += [numbers[:place] + numbers[place + 1:], numbers[:place] + [number] + numbers[place:]]
    return made


def spoilt_said(said, chance):
    """The same put otherwise at one place; a few of them are right still."""
    cut, firsts, seconds, heaps = said
    made = [list(said), said[:3], said + (0,), (said,), None, {0: said}, (cut, seconds, firsts, heaps), (heaps, cut, firsts, seconds)]
    made += [(other, firsts, seconds, heaps) for other in (cut + 1, cut - 1, -1, len(heaps), len(heaps) - 1, 0, None, str(cut),
                                                           cut == 1, cut == 0, [cut], (cut,), 10 ** 39)]
    made += [(cut, other, seconds, heaps) for other in spoilt_numbers(firsts)]
    made += [(cut, firsts, other, heaps) for other in spoilt_numbers(seconds)]
    made += [(cut, firsts[:place] + firsts[place + 1:], seconds[:place] + seconds[place + 1:], heaps) for place in range(len(firsts))]
    made += [(cut, firsts, seconds, other) for other in (tuple(heaps), heaps[1:], heaps[:-1], heaps + [[]], [[]] + heaps, None, {},
                                                         heaps[::-1], [heaps], [[]] * len(heaps), [None] * len(heaps))]
    for place in sorted({0, cut - 1, cut, cut + 1, len(heaps) - 1} & set(range(len(heaps)))):
        for other in spoilt_heaps(heaps[place], chance) + [None, (), {}, [None], [[None]], [[(0, 0)]], [[(0, None)]], [(0, 0)]]:
            made.append((cut, firsts, seconds, heaps[:place] + [other] + heaps[place + 1:]))
    return made


class Told(Case):
    def test_lengths(self):
        for row in ROWS:
            self.tells(lengths_by_reading(row), twice_lengths, row)
            asks = asks_of(row, row)
            n = len(row)
            self.tells([asks.window(0, cut, cut, n) for cut in range(n + 1)], twice_lengths, row)
            self.fresh(twice_lengths, row)

    def test_twice(self):
        for row in ROWS:
            told = twice(row)
            self.assertIs(type(told), tuple)
            self.assertEqual(len(told), 4)
            cut, firsts, seconds, heaps = told
            lengths = lengths_by_reading(row)
            self.assertEqual(repr(cut), repr(lengths.index(max(lengths))))
            self.numbers(firsts)
            self.numbers(seconds)
            self.assertEqual(len(firsts), max(lengths))
            self.assertTrue(said_by_reading(row, cut, firsts, seconds), told)
            self.assertTrue(thread_by_reading(row[:cut], row[cut:], [(i, j - cut) for i, j in zip(firsts, seconds)]))
            self.assertEqual(repr(heaps), repr(heaps_of_cuts(row, heaps_of)))
            if len(row) < 24:
                self.assertEqual(repr(heaps), repr(heaps_of_cuts(row, peeled)))
            self.tells(told, twice, row)
            self.truth(True, shows_twice, row, told)
            self.fresh(twice, row)

    def test_some_plain_cases(self):
        self.tells((0, [], [], [[]]), twice, "")
        self.tells((0, [], [], [[], []]), twice, "a")
        self.tells((0, [], [], [[], [], []]), twice, "ab")
        self.tells((1, [0], [1], [[], [[(0, 1)]], []]), twice, "aa")
        self.tells([0], twice_lengths, "")
        self.tells([0, 1, 2, 1, 0], twice_lengths, "abab")
        self.assertEqual(twice("abcabc")[:3], (3, [0, 1, 2], [3, 4, 5]))
        self.assertEqual(twice("aab")[:1], (1,))
        self.assertEqual(twice("a" * 24)[:3], (12, list(range(12)), list(range(12, 24))))
        self.assertEqual(twice("abcdefghijklmnopqrstuvwx"), (0, [], [], [[]] * 25))


class Shows(Case):
    def test_spoilt_at_one_place(self):
        chance = random.Random(221)
        right = 0
        for row in FEW + drawn_rows(222)[:12]:
            for thing in spoilt_said(twice(row), chance):
                wanted = shown_by_reading(row, thing)
                right += wanted
                self.truth(wanted, shows_twice, row, thing)
        self.assertGreater(right, 50)

    def test_each_in_any_order(self):
        chance = random.Random(223)
        for row in ROWS:
            cut, firsts, seconds, heaps = twice(row)
            self.truth(True, shows_twice, row, (cut, firsts, seconds, [stirred(part, chance) for part in heaps]))

    def test_other_right_ones(self):
        heaps = twice("aba")[3]
        self.truth(True, shows_twice, "aba", (1, [0], [2], heaps))
        self.truth(False, shows_twice, "aba", (2, [0], [2], heaps))
        heaps = twice("aab")[3]
        self.truth(True, shows_twice, "aab", (1, [0], [1], heaps))
        self.truth(False, shows_twice, "aab", (0, [0], [1], heaps))
        heaps = twice("aaa")[3]
        self.truth(True, shows_twice, "aaa", (1, [0], [1], heaps))
        self.truth(True, shows_twice, "aaa", (1, [0], [2], heaps))
        self.truth(False, shows_twice, "aaa", (2, [1], [2], heaps))

    def test_a_greater_cut_or_a_shorter_thread(self):
        for row in ROWS:
            heaps = twice(row)[3]
            for cut in range(len(row) + 1):
                length = lengths_by_reading(row)[cut]
                thread = [(i, j) for i, j in zip(*twice_of_cut(row, cut))]
                self.assertEqual(len(thread), length)
                thing = (cut, [i for i, j in thread], [j for i, j in thread], heaps)
                self.truth(cut == twice(row)[0], shows_twice, row, thing)

    def test_more_heaps_than_needed(self):
        for row in ("aaa", "abab", "aabb"):
            cut, firsts, seconds, heaps = twice(row)
            for other in range(len(row) + 1):
                alone = [[pair] for heap in heaps[other] for pair in heap]
                thing = (cut, firsts, seconds, heaps[:other] + [alone] + heaps[other + 1:])
                self.truth(shown_by_reading(row, thing), shows_twice, row, thing)

    def test_those_of_other_rows(self):
        for row in FEW:
            for other in FEW:
                self.truth(shown_by_reading(row, twice(other)), shows_twice, row, twice(other))

    def test_any_thing(self):
        for row in ("", "a", "aa", "aba"):
            said = twice(row)
            for thing in odd_things():
                self.truth(shown_by_reading(row, thing), shows_twice, row, thing)
                for place in range(4):
                    handed = said[:place] + (thing,) + said[place + 1:]
                    self.truth(shown_by_reading(row, handed), shows_twice, row, handed)
                handed = said[:3] + ([thing] * len(said[3]),)
                self.truth(shown_by_reading(row, handed), shows_twice, row, handed)


def twice_of_cut(row, cut):
    """The places of a longest thread at a cut, by a plain search."""
    best = {}
    for i in reversed(range(cut + 1)):
        for j in reversed(range(cut, len(row) + 1)):
            if i == cut or j == len(row):
                best[i, j] = ()
            elif row[i] == row[j]:
                best[i, j] = ((i, j),) + best[i + 1, j + 1]
            else:
                best[i, j] = max(best[i + 1, j], best[i, j + 1], key=len)
    return [i for i, j in best[0, cut]], [j for i, j in best[0, cut]]


class Refused(Case):
    def test_no_plain(self):
        for thing in odd_things() + ["a.", ".", "a" * 25, "aB", "a\n"]:
            if plain_by_reading(thing):
                continue
            self.refuses(NoPlain, {"found": thing}, twice_lengths, thing)
            self.refuses(NoPlain, {"found": thing}, twice, thing)
            for other in ((0, [], [], [[]]), None, thing, (), [thing]):
                self.refuses(NoPlain, {"found": thing}, shows_twice, thing, other)


if __name__ == "__main__":
    unittest.main()
