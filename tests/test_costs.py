"""Points [85] to [88], what [8] says of costs, and panethread/costs.py."""

import itertools
import random
import unittest

from panethread.changes import done, is_changes, paid
from panethread.costs import Costs, changes_of, cost, cost_paper, shows_cost
from panethread.errors import NoPlain, NoSpan
from panethread.heaps import heaps_of
from panethread.rows import parted

from common import Case, longest_by_least_ends, odd_things, plain_by_reading, two_rows
from test_changes import changes_by_reading, drawn_from, new_by_reading, old_by_reading, paid_by_reading, spoilt_changes
from test_heaps import copied, heaps_by_reading, peeled, spoilt_heaps, stirred
from test_tallies import span_by_reading, spans


def reckoned(side, top):
    """The cost by the letters one after the other, each kept, changed, put in or taken out."""
    above = list(range(len(top) + 1))
    for i, letter in enumerate(side):
        row = [i + 1]
        for j, other in enumerate(top):
            row.append(min(above[j + 1] + 1, row[j] + 1, above[j] + (0 if letter == other else 1)))
        above = row
    return above[-1]


def by_all_lists(side, top):
    """The least that any list of changes pays, by trying all of them in the order of what they pay."""
    letters = sorted(set(side + top))
    rows = {side}
    pay = 0
    while top not in rows:
        pay += 1
        more = set()
        for row in rows:
            for place in range(len(row) + 1):
                more.update(row[:place] + letter + row[place:] for letter in letters)
                if place < len(row):
                    more.add(row[:place] + row[place + 1:])
                    more.update(row[:place] + letter + row[place + 1:] for letter in letters)
        rows |= more
    return pay


FEW = [("", ""), ("a", ""), ("", "a"), ("a", "a"), ("a", "b"), ("ab", "ba"), ("abc", "abc"), ("abc", "axc"), ("abc", "ac"),
       ("ac", "abc"), ("kitten", "sitting"), ("aaa", "a"), ("abab", "baba"), ("abc", "xyz")]
LONG = [("a" * 24, "a" * 24), ("a" * 24, "b" * 24), ("a" * 24, ""), ("", "z" * 24), ("ab" * 12, "ba" * 12),
        ("thequickbrownfoxjumpsove", "packmyboxwithfivedozenli"), ("abcdefghijklmnopqrstuvwx", "cdefghijklmnopqrstuvwxyz")]
ROWS = FEW + two_rows(140, 30, 8, "ab") + two_rows(141, 30, 12, "abcd") + LONG + two_rows(142, 6, 24, "abcde")


class Cost(Case):
    def test_plain_reckoning(self):
        for side, top in ROWS:
            self.tells(reckoned(side, top), cost, side, top)

    def test_the_parted_rows(self):
        for side, top in ROWS:
            thread = longest_by_least_ends(parted(side), parted(top))
            self.tells(len(side) + len(top) - thread, cost, side, top)

    def test_all_lists_of_short_rows(self):
        rows = ["".join(row) for many in range(4) for row in itertools.product("ab", repeat=many)]
        for side in rows:
            for top in rows:
                self.tells(by_all_lists(side, top), cost, side, top)
        self.tells(by_all_lists("abca", "bcb"), cost, "abca", "bcb")

    def test_what_follows(self):
        chance = random.Random(143)
        for side, top in ROWS:
            third = chance.choice(ROWS)[0]
            self.assertEqual(cost(side, top), cost(top, side))
            self.assertEqual(cost(side, top) == 0, side == top)
            self.assertLessEqual(cost(side, third), cost(side, top) + cost(top, third))
            self.assertLessEqual(cost(side, top), max(len(side), len(top)))
            self.assertGreaterEqual(cost(side, top), abs(len(side) - len(top)))

    def test_no_drawn_list_pays_less(self):
        chance = random.Random(144)
        for side, top in ROWS:
            for time in range(5):
                changes = drawn_from(chance, side, "ab", 0.2)
                if changes_by_reading(changes) and len(new_by_reading(changes)) <= 24:
                    self.assertLessEqual(cost(side, new_by_reading(changes)), paid(changes))


class ChangesOf(Case):
    def test_they_pay_just_the_cost(self):
        for side, top in ROWS:
            told = changes_of(side, top)
            self.assertTrue(changes_by_reading(told), told)
            self.truth(True, is_changes, told)
            self.assertEqual((old_by_reading(told), new_by_reading(told)), (side, top))
            self.tells(top, done, side, told)
            self.tells(reckoned(side, top), paid, told)
            self.tells(told, changes_of, side, top)

    def test_told_anew(self):
        for side, top in FEW:
            self.fresh(changes_of, side, top)

    def test_some_plain_cases(self):
        self.tells([], changes_of, "", "")
        self.tells([("keep", "a"), ("keep", "b")], changes_of, "ab", "ab")
        self.tells([("out", "a")] * 24, changes_of, "a" * 24, "")
        self.tells([("in", "z")] * 24, changes_of, "", "z" * 24)
        self.tells([("change", "a", "b")] * 24, changes_of, "a" * 24, "b" * 24)


class OfStretches(Case):
    def test_all(self):
        for side, top in ROWS:
            costs, n = Costs(side, top), len(top)
            self.tells(side, costs.side)
            self.tells(top, costs.top)
            table = {(begin, end): reckoned(side, top[begin:end]) for begin, end in spans(n)}
            for begin, end in spans(n):
                self.assertEqual(repr(costs.of(begin, end)), repr(table[begin, end]))
            rows = [[table[begin, end] for end in range(begin, n + 1)] for begin in range(n + 1)]
            self.tells(rows, costs.rows_of)
            ends = [min((table[begin, end], begin) for begin in range(end + 1)) for end in range(n + 1)]
            self.tells(ends, costs.ends)
            self.tells(min((pay, begin, end) for (begin, end), pay in table.items()), costs.best)

    def test_told_anew(self):
        for side, top in FEW:
            costs = Costs(side, top)
            self.fresh(costs.rows_of)
            self.fresh(costs.ends)

    def test_some_plain_cases(self):
        costs = Costs("abc", "xxabdxx")
        self.tells((1, 2, 4), costs.best)
        self.tells(1, costs.of, 2, 5)
        self.tells(3, costs.of, 0, 0)
        self.tells(3, costs.of, 7, 7)
        self.tells((0, 0, 0), Costs("", "abc").best)
        self.tells([(0, 0), (0, 1), (0, 2), (0, 3)], Costs("", "abc").ends)
        self.tells((3, 0, 0), Costs("abc", "").best)
        self.tells([[3]], Costs("abc", "").rows_of)
        self.tells([(3, 0)], Costs("abc", "").ends)
        self.tells((2, 0, 0), Costs("ab", "xyx").best)
        self.tells([(2, 0), (2, 0), (2, 0), (2, 1)], Costs("ab", "xyx").ends)
        self.tells([[0]], Costs("", "").rows_of)

    def test_no_span(self):
        for side, top in (("", ""), ("ab", ""), ("", "ab"), ("ab", "abc"), ("a" * 24, "b" * 24)):
            costs, n = Costs(side, top), len(top)
            shown = repr((costs.rows_of(), costs.ends(), costs.best()))
            things = odd_things() + [n + 1, -1, 2 * n, "0"]
            wrong = [(thing, n) for thing in things] + [(0, thing) for thing in things]
            wrong += [(thing, thing) for thing in things] + [(1, 0), (n, n - 1), (True, n), (0, False)]
            for begin, end in wrong:
                if not span_by_reading(begin, end, n):
                    self.refuses(NoSpan, {"begin": begin, "end": end}, costs.of, begin, end)
            self.assertEqual(repr((costs.rows_of(), costs.ends(), costs.best())), shown)


def shows_by_reading(side, top, thing):
    if type(thing) is not tuple or len(thing) != 2 or not changes_by_reading(thing[0]):
        return False
    if old_by_reading(thing[0]) != side or new_by_reading(thing[0]) != top:
        return False
    if not heaps_by_reading(parted(side), parted(top), thing[1]):
        return False
    return paid_by_reading(thing[0]) + len(thing[1]) == len(side) + len(top)


SHORT = FEW + two_rows(145, 8, 5, "ab") + two_rows(146, 8, 5, "abc")


class Papers(Case):
    def test_told(self):
        for side, top in ROWS:
            paper = cost_paper(side, top)
            self.assertIs(type(paper), tuple)
            self.assertEqual(len(paper), 2)
            self.assertTrue(changes_by_reading(paper[0]))
            self.assertEqual((old_by_reading(paper[0]), new_by_reading(paper[0])), (side, top))
            self.assertEqual(paid_by_reading(paper[0]), reckoned(side, top))
            self.assertEqual(repr(paper[1]), repr(heaps_of(parted(side), parted(top))))
            self.truth(True, shows_cost, side, top, paper)
        for side, top in SHORT:
            self.assertEqual(repr(cost_paper(side, top)[1]), repr(peeled(parted(side), parted(top))))
            self.fresh(cost_paper, side, top)

    def test_other_changes_and_heaps(self):
        chance = random.Random(147)
        for side, top in SHORT:
            changes, heaps = cost_paper(side, top)
            self.truth(True, shows_cost, side, top, (changes, stirred(heaps, chance)))
        heaps = cost_paper("ab", "ba")[1]
        self.truth(True, shows_cost, "ab", "ba", ([("in", "b"), ("keep", "a"), ("out", "b")], heaps))
        self.truth(True, shows_cost, "ab", "ba", ([("out", "a"), ("keep", "b"), ("in", "a")], heaps))
        self.truth(True, shows_cost, "ab", "ba", ([("change", "a", "b"), ("change", "b", "a")], heaps))
        self.truth(False, shows_cost, "ab", "ba", ([("out", "a"), ("out", "b"), ("in", "b"), ("in", "a")], heaps))

    def test_spoilt_at_one_place(self):
        chance = random.Random(148)
        right = 0
        for side, top in SHORT:
            changes, heaps = cost_paper(side, top)
            things = [(other, heaps) for other in spoilt_changes(changes)]
            things += [(changes, other) for other in spoilt_heaps(heaps, chance)]
            things += [[changes, heaps], (changes,), (heaps, changes), (changes, heaps, []), None, changes, heaps,
                       (changes, tuple(heaps)), (tuple(changes), heaps), (changes, heaps[1:]), (changes, copied(heaps) * 2),
                       (changes[1:], heaps), ((changes, heaps),), {0: changes, 1: heaps}]
            for time in range(5):
                things.append((drawn_from(chance, side, "ab", 0.2), heaps))
            for thing in things:
                wanted = shows_by_reading(side, top, thing)
                right += wanted
                self.truth(wanted, shows_cost, side, top, thing)
        self.assertGreater(right, 20)

    def test_the_paper_of_other_rows(self):
        for side, top in SHORT[:16]:
            for one, other in SHORT[:16]:
                paper = cost_paper(one, other)
                self.truth(shows_by_reading(side, top, paper), shows_cost, side, top, paper)

    def test_what_pays_more_is_not_made_up_by_fewer_heaps(self):
        for side, top in SHORT:
            changes = [("out", letter) for letter in side] + [("in", letter) for letter in top]
            heaps = cost_paper(side, top)[1]
            wanted = len(changes) + len(heaps) == len(side) + len(top)
            self.truth(wanted, shows_cost, side, top, (changes, heaps))
            self.truth(heaps == [], shows_cost, side, top, (changes, []))

    def test_at_least_the_letters(self):
        chance = random.Random(149)
        for side, top in SHORT:
            heaps = cost_paper(side, top)[1]
            for other in spoilt_heaps(heaps, chance):
                if heaps_by_reading(parted(side), parted(top), other):
                    self.assertGreaterEqual(cost(side, top) + len(other), len(side) + len(top))

    def test_any_thing(self):
        for side, top in (("", ""), ("a", "a"), ("ab", "b")):
            changes, heaps = cost_paper(side, top)
            for thing in odd_things():
                for handed in (thing, (thing, heaps), (changes, thing), (thing, thing), (changes, [thing])):
                    self.truth(shows_by_reading(side, top, handed), shows_cost, side, top, handed)


class Refused(Case):
    def test_no_plain_of_the_side_then_of_the_top(self):
        calls = [cost, Costs, changes_of, cost_paper, lambda side, top: shows_cost(side, top, None),
                 lambda side, top: shows_cost(side, top, ([], []))]
        for thing in odd_things() + ["a.", ".", "a" * 25, "aB"]:
            if plain_by_reading(thing):
                continue
            for call in calls:
                for other in ("", "ab", "A", None, thing):
                    self.refuses(NoPlain, {"found": thing}, call, thing, other)
                self.refuses(NoPlain, {"found": thing}, call, "", thing)
                self.refuses(NoPlain, {"found": thing}, call, "z" * 24, thing)


if __name__ == "__main__":
    unittest.main()
