"""Points [14] to [17] and panethread/threads.py."""

import itertools
import unittest

from panethread.errors import NoThread
from panethread.threads import is_thread, lengths, longest, said, thread_of

from common import (FEW_ROWS, LONG_ROWS, Case, lengths_by_least_ends, longest_by_least_ends, many_rows, odd_things,
                    thread_by_reading, two_rows)

ROWS = many_rows(20, 40, 9) + LONG_ROWS + two_rows(21, 6, 48, "abcde.")


def texts_within(row):
    """All texts that a row says by some of its places, in order."""
    return {"".join(signs) for many in range(len(row) + 1) for signs in itertools.combinations(row, many)}


def spoilt_threads(thread):
    """The same put otherwise in one place, most of them no threads any more."""
    made = [tuple(thread), [list(pair) for pair in thread], [thread], {0: thread}]
    for place, (i, j) in enumerate(thread):
        others = [(i + 1, j), (i - 1, j), (i, j + 1), (i, j - 1), (j, i), [i, j], (i, j, j), (i,), (), None, i, "ab",
                  (i, None), (None, j), (i, "0"), (str(i), j), (-1, j), (i, -1), (48, j), (i, 48), (i - 100, j),
                  (i == 1, j), (i, j == 1), (i == 0, j), (i, j == 0), ((i,), j), {i: j}]
        for other in others:
            made.append(thread[:place] + [other] + thread[place + 1:])
        made.append(thread[:place] + [(i, j)] + thread[place:])
        made.append(thread + [(i, j)])
        made.append(thread[:place] + thread[place + 1:])
        if place + 1 < len(thread):
            made.append(thread[:place] + [thread[place + 1], thread[place]] + thread[place + 2:])
    for other in ((0, 0), (-1, -1), None, [], (0, 0, 0), True):
        made.append([other] + thread)
        made.append(thread + [other])
    return made


class Lengths(Case):
    def test_against_another_way(self):
        for side, top in ROWS:
            self.tells(lengths_by_least_ends(side, top), lengths, side, top)
            self.tells(longest_by_least_ends(side, top), longest, side, top)

    def test_against_all_texts(self):
        for side, top in FEW_ROWS + two_rows(22, 20, 6):
            told = lengths(side, top)
            for i in range(len(side) + 1):
                for j in range(len(top) + 1):
                    both = texts_within(side[:i]) & texts_within(top[:j])
                    self.assertEqual(told[i][j], max(len(text) for text in both), (side, top, i, j))

    def test_rows_without_signs(self):
        self.tells([[0]], lengths, "", "")
        self.tells([[0, 0, 0]], lengths, "", "ab")
        self.tells([[0], [0], [0]], lengths, "ab", "")
        self.tells(0, longest, "", "")
        self.tells(0, longest, "", "." * 48)
        self.tells(0, longest, "." * 48, "")
        self.tells(48, longest, "." * 48, "." * 48)

    def test_each_list_is_another_one(self):
        for side, top in FEW_ROWS + [("a" * 48, "b" * 48), ("ab", "")]:
            self.fresh(lengths, side, top)

    def test_refused(self):
        self.refuses_rows_first(lengths)
        self.refuses_rows_first(longest)


class Threads(Case):
    def test_a_longest_thread(self):
        for side, top in ROWS:
            told = thread_of(side, top)
            self.pairs(told)
            self.assertTrue(thread_by_reading(side, top, told), (side, top, told))
            self.assertEqual(len(told), longest_by_least_ends(side, top), (side, top, told))
            self.truth(True, is_thread, side, top, told)
            self.tells("".join(side[i] for i, j in told), said, side, top, told)

    def test_told_anew(self):
        for side, top in FEW_ROWS:
            self.fresh(thread_of, side, top)

    def test_refused(self):
        self.refuses_rows_first(thread_of)
        for thing in ([], [(0, 0)], None, [(5, 5)], [None], "A", 49):
            self.refuses_rows_first(is_thread, thing)
            self.refuses_rows_first(said, thing)

    def judged(self, side, top, thing):
        right = thread_by_reading(side, top, thing)
        self.truth(right, is_thread, side, top, thing)
        if right:
            self.tells("".join(top[pair[1]] for pair in thing), said, side, top, thing)
        else:
            self.refuses(NoThread, {"found": thing}, said, side, top, thing)

    def test_spoilt_in_one_place(self):
        for side, top in ROWS:
            thread = thread_of(side, top)
            for thing in spoilt_threads(thread) + spoilt_threads(thread[1:]) + spoilt_threads(thread[:3]):
                self.judged(side, top, thing)

    def test_any_thing(self):
        for side, top in FEW_ROWS + [("aa", "aa"), ("a" * 48, "a" * 48)]:
            for thing in odd_things():
                self.judged(side, top, thing)

    def test_all_lists_of_two_pairs(self):
        side, top = "ab.a", "a.ba"
        pairs = [(i, j) for i in range(-1, 5) for j in range(-1, 5)]
        for one in pairs:
            self.judged(side, top, [one])
            for other in pairs:
                self.judged(side, top, [one, other])

    def test_some_plain_cases(self):
        self.truth(True, is_thread, "", "", [])
        self.truth(True, is_thread, "ab", "ab", [])
        self.truth(True, is_thread, "ab", "ab", [(1, 1)])
        self.truth(True, is_thread, "a.b", "a.b", [(0, 0), (2, 2)])
        self.truth(False, is_thread, "ab", "ab", ())
        self.truth(False, is_thread, "ab", "ab", ((0, 0), (1, 1)))
        self.truth(False, is_thread, "ab", "ab", [[0, 0]])
        self.truth(False, is_thread, "aa", "aa", [(0, 0), (0, 1)])
        self.truth(False, is_thread, "aa", "aa", [(0, 0), (1, 0)])
        self.truth(False, is_thread, "aa", "aa", [(-1, -1)])
        self.truth(False, is_thread, "aa", "aa", [(-2, -2), (1, 1)])
        self.truth(False, is_thread, "aa", "aa", [(True, True)])
        self.truth(False, is_thread, "aa", "aa", [(False, 0)])
        self.tells("", said, "ab", "ab", [])
        self.tells("a.b", said, "xa.b", "a..b", [(1, 0), (2, 1), (3, 3)])


if __name__ == "__main__":
    unittest.main()
