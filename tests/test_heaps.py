"""Points [20] to [23] and panethread/heaps.py."""

import random
import unittest

from panethread.heaps import are_heaps, heaps_of, pairs_of, paper_of, shows

from common import (FEW_ROWS, LONG_ROWS, Case, longest_by_least_ends, many_rows, match_by_reading, odd_things,
                    thread_by_reading, two_rows)

ROWS = many_rows(30, 25, 8) + two_rows(31, 3, 20, "abcde.")


def pairs_by_reading(side, top):
    return [(i, j) for i in range(len(side)) for j in range(len(top)) if side[i] == top[j]]


def ahead(one, other):
    return one[0] < other[0] and one[1] < other[1]


def peeled(side, top):
    """The heaps as [22] tells them, one after the other."""
    left = pairs_by_reading(side, top)
    heaps = []
    while left:
        heap = [pair for pair in left if not any(ahead(other, pair) for other in left)]
        heaps.append(heap)
        left = [pair for pair in left if pair not in heap]
    return heaps


def heaps_by_reading(side, top, thing):
    if type(thing) is not list:
        return False
    met = []
    for heap in thing:
        if type(heap) is not list or len(heap) == 0 or not all(match_by_reading(side, top, pair) for pair in heap):
            return False
        met.extend(heap)
    if sorted(met) != pairs_by_reading(side, top):
        return False
    return not any(ahead(one, other) for heap in thing for one in heap for other in heap)


def paper_by_reading(side, top, thing):
    return (type(thing) is tuple and len(thing) == 2 and thread_by_reading(side, top, thing[0])
            and heaps_by_reading(side, top, thing[1]) and len(thing[0]) == len(thing[1]))


def copied(heaps):
    return [list(heap) for heap in heaps]


def with_heap(heaps, place, *others):
    return copied(heaps[:place]) + list(others) + copied(heaps[place + 1:])


def with_pair(heaps, place, spot, *others):
    heap = heaps[place]
    return with_heap(heaps, place, heap[:spot] + list(others) + heap[spot + 1:])


def other_pairs(pair):
    i, j = pair
    return [[i, j], (i, j, j), (i,), (), None, i, (j, i), (i + 1, j), (i, j + 1), (i - 1, j), (i, j - 1), (-1, -1),
            (-1, j), (i, -1), (i - 48, j - 48), (48, 48), (i == 1, j), (i, j == 1), (i == 0, j), (i, j == 0), (None, j),
            "ab", {i: j}, (str(i), j), [(i, j)], ((i, j),), True, [[i], [j]]]


def spoilt_heaps(heaps, chance):
    """The same put otherwise in one place; a few of them are heaps still."""
    made = [tuple(heaps), copied(heaps) + [[]], [[]] + copied(heaps), copied(heaps) + [None], copied(heaps) + [()],
            copied(heaps) + [[(0, 0)]], copied(heaps) + [[(48, 48)]], copied(heaps) + [[(-1, -1)]], [copied(heaps)],
            {place: heap for place, heap in enumerate(heaps)}, copied(heaps) * 2, None, (copied(heaps),)]
    for place, heap in enumerate(heaps):
        made += [with_heap(heaps, place), with_heap(heaps, place, tuple(heap)), with_heap(heaps, place, None),
                 with_heap(heaps, place, [heap]), with_heap(heaps, place, heap, heap), with_heap(heaps, place, [], heap),
                 with_heap(heaps, place, {pair: True for pair in heap}), with_heap(heaps, place, heap[0])]
        cut = chance.randint(0, len(heap))
        made.append(with_heap(heaps, place, heap[:cut], heap[cut:]))
        if place > 0:
            made.append(with_heap(with_heap(heaps, place), place - 1, heap + heaps[place - 1]))
        spot = chance.randrange(len(heap))
        pair = heap[spot]
        made.append(with_pair(heaps, place, spot))
        made.append(with_pair(heaps, place, spot, pair, pair))
        made.append(copied(heaps) + [[pair]])
        for other in other_pairs(pair):
            made.append(with_pair(heaps, place, spot, other))
            made.append(with_pair(heaps, place, spot, pair, other))
        for target in range(len(heaps)):
            without = with_pair(heaps, place, spot)
            without[target].append(pair)
            made.append([heap for heap in without if heap])
            twice = copied(heaps)
            twice[target].append(pair)
            made.append(twice)
    return made


def stirred(heaps, chance):
    other = copied(heaps)
    for heap in other:
        chance.shuffle(heap)
    chance.shuffle(other)
    return other


class Heaps(Case):
    def test_pairs(self):
        for side, top in ROWS + LONG_ROWS:
            self.tells(pairs_by_reading(side, top), pairs_of, side, top)
        for side, top in FEW_ROWS:
            self.fresh(pairs_of, side, top)

    def test_heaps(self):
        for side, top in ROWS:
            self.tells(peeled(side, top), heaps_of, side, top)
            self.assertEqual(len(heaps_of(side, top)), longest_by_least_ends(side, top))
            self.fresh(heaps_of, side, top)
        self.tells([], heaps_of, "", "")
        self.tells([], heaps_of, "", "a" * 48)
        self.tells([], heaps_of, "a" * 48, "")
        self.tells([], heaps_of, "abc", "def")
        self.tells([[(0, 0), (0, 1), (1, 0)], [(1, 1)]], heaps_of, "..", "..")

    def test_heaps_of_long_rows(self):
        shells = [[(i, j) for i in range(48) for j in range(48) if min(i, j) == place] for place in range(48)]
        self.tells(shells, heaps_of, "a" * 48, "a" * 48)
        for side, top in LONG_ROWS:
            told = heaps_of(side, top)
            self.assertEqual(len(told), longest_by_least_ends(side, top))
            self.assertTrue(heaps_by_reading(side, top, told))
            self.truth(True, are_heaps, side, top, told)

    def test_each_in_any_order(self):
        chance = random.Random(32)
        for side, top in ROWS + LONG_ROWS:
            told = heaps_of(side, top)
            for time in range(3):
                self.truth(True, are_heaps, side, top, stirred(told, chance))
            alone = [[pair] for pair in pairs_of(side, top)]
            chance.shuffle(alone)
            self.truth(True, are_heaps, side, top, alone)

    def test_put_otherwise(self):
        chance = random.Random(33)
        right = 0
        for side, top in ROWS:
            told = heaps_of(side, top)
            for thing in spoilt_heaps(told, chance) + spoilt_heaps(stirred(told, chance), chance):
                wanted = heaps_by_reading(side, top, thing)
                right += wanted
                self.truth(wanted, are_heaps, side, top, thing)
        self.assertGreater(right, 50)

    def test_any_thing(self):
        for side, top in FEW_ROWS + [("aa", "aa"), ("a" * 48, "a" * 48)]:
            for thing in odd_things():
                self.truth(heaps_by_reading(side, top, thing), are_heaps, side, top, thing)

    def test_many_pairs_in_one_heap(self):
        side = top = "a" * 48
        every = pairs_by_reading(side, top)
        self.truth(False, are_heaps, side, top, [every])
        self.truth(False, are_heaps, side, top, [every[:1200], every[1200:]])
        self.truth(False, are_heaps, side, top, [[(0, 0)] * 6000])
        rows = [[(i, j) for j in range(48)] for i in range(48)]
        self.truth(True, are_heaps, side, top, rows)
        self.truth(True, are_heaps, side, top, [[(i, j) for i in reversed(range(48))] for j in range(48)])
        self.truth(False, are_heaps, side, top, rows[:-1])
        self.truth(False, are_heaps, side, top, rows + rows[:1])

    def test_refused(self):
        self.refuses_rows_first(pairs_of)
        self.refuses_rows_first(heaps_of)
        for thing in ([], [[(0, 0)], [(1, 1)]], None, "A", [[]]):
            self.refuses_rows_first(are_heaps, thing)


class Papers(Case):
    def test_told(self):
        for side, top in ROWS:
            told = paper_of(side, top)
            self.assertIs(type(told), tuple)
            self.assertEqual(len(told), 2)
            self.assertTrue(thread_by_reading(side, top, told[0]), told)
            self.assertEqual(repr(told[1]), repr(peeled(side, top)))
            self.assertEqual(len(told[0]), longest_by_least_ends(side, top))
            self.truth(True, shows, side, top, told)
            self.fresh(paper_of, side, top)
        for side, top in LONG_ROWS:
            told = paper_of(side, top)
            self.assertTrue(paper_by_reading(side, top, told))
            self.assertEqual(told[1], heaps_of(side, top))
            self.truth(True, shows, side, top, told)

    def test_in_any_order(self):
        chance = random.Random(34)
        for side, top in ROWS:
            thread, heaps = paper_of(side, top)
            self.truth(True, shows, side, top, (thread, stirred(heaps, chance)))

    def test_put_otherwise(self):
        chance = random.Random(35)
        for side, top in ROWS:
            thread, heaps = paper_of(side, top)
            things = [(heaps, thread), [thread, heaps], (thread, heaps, []), (thread,), (heaps,), (thread, heaps, heaps),
                      (tuple(thread), heaps), (thread, tuple(heaps)), (None, heaps), (thread, None), thread, heaps,
                      (thread[1:], heaps), (thread[:-1], heaps), (list(reversed(thread)), heaps), (thread, heaps[1:]),
                      (thread, heaps + [[]]), ([list(pair) for pair in thread], heaps), {0: thread, 1: heaps}, ((thread, heaps),)]
            things += [(thread, other) for other in spoilt_heaps(heaps, chance)]
            things += [(thread[:-1], other) for other in spoilt_heaps(heaps, chance)]
            for place, (i, j) in enumerate(thread):
                for other in other_pairs((i, j)):
                    things.append((thread[:place] + [other] + thread[place + 1:], heaps))
            for thing in things:
                self.truth(paper_by_reading(side, top, thing), shows, side, top, thing)

    def test_one_heap_more_than_pairs(self):
        self.truth(True, shows, "aa", "a", ([(0, 0)], [[(0, 0), (1, 0)]]))
        self.truth(False, shows, "aa", "a", ([(0, 0)], [[(0, 0)], [(1, 0)]]))
        self.truth(False, shows, "aa", "a", ([], [[(0, 0), (1, 0)]]))
        self.truth(False, shows, "aa", "a", ([(0, 0), (1, 0)], [[(0, 0)], [(1, 0)]]))
        self.truth(True, shows, "", "", ([], []))
        self.truth(False, shows, "", "", [[], []])
        self.truth(False, shows, "", "", ((), ()))
        self.truth(False, shows, "", "", ([], [], []))

    def test_any_thing(self):
        for side, top in FEW_ROWS:
            for thing in odd_things():
                self.truth(paper_by_reading(side, top, thing), shows, side, top, thing)
                self.truth(paper_by_reading(side, top, ([], thing)), shows, side, top, ([], thing))
                self.truth(paper_by_reading(side, top, (thing, [])), shows, side, top, (thing, []))

    def test_refused(self):
        self.refuses_rows_first(paper_of)
        for thing in (([], []), None, "A", ([(0, 0)], [[(0, 0)]])):
            self.refuses_rows_first(shows, thing)


class NoMorePairsThanHeaps(Case):
    def test_a_thread_has_at_most_one_pair_of_each_heap(self):
        chance = random.Random(36)
        for side, top in ROWS:
            thread = paper_of(side, top)[0]
            for thing in spoilt_heaps(heaps_of(side, top), chance):
                if are_heaps(side, top, thing):
                    self.assertLessEqual(len(thread), len(thing))
                    for heap in thing:
                        self.assertLessEqual(len([pair for pair in heap if pair in thread]), 1)


if __name__ == "__main__":
    unittest.main()
