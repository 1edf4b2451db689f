"""What the tests share: rows to try, odd things to hand in, and the looks that each answer gets."""

import random
import re
import unittest
from bisect import bisect_left

from panethread.asks import Asks
from panethread.boards import Board
from panethread.costs import Costs
from panethread.desk import Desk
from panethread.errors import NoPlace, NoRow, NoSpan, PaneError
from panethread.kept import Kept
from panethread.pieces import Blank, One
from panethread.rings import Ring
from panethread.tallies import Tally
from panethread.watch import Watch


def whole(thing):
    return type(thing) is int


def within(thing, low, high):
    return whole(thing) and low <= thing <= high


def row_by_reading(thing):
    return type(thing) is str and re.fullmatch("[a-z.]{0,48}", thing) is not None


def plain_by_reading(thing):
    return type(thing) is str and re.fullmatch("[a-z]{0,24}", thing) is not None


def odd_things():
    """Things of all kinds that may be handed in, made anew at each call."""
    numbers = [0, 1, 2, -1, -2, 24, 25, 48, 49, 96, 97, 10 ** 39, -(10 ** 39)]
    truths = [True, False, None]
    texts = ["", "a", "z", "A", "Z", "ab", "..", ".a.b", "a b", " ", "\n", "a\n", "\na", "-", "~", "0", "1", "`", "{",
             "/", "a" * 24, "a" * 25, "." * 48, "." * 49, "b" * 60, "x", "xo", "None"]
    lists = [[], [0], [1], [1, 0], [0, 1, 2], [[]], [[], []], [None], [True], [False], ["a"], ["a", "b"], [""],
             ["x"], [(0, 0)], [[0, 0]], [[(0, 0)]], [[[(0, 0)]]], [(0, 0), (1, 1)], [[0]], [[0, 0], [0, 1]], [{}],
             [()], [(), ()], [[[[[[]]]]]], ["."], [(0,)], [(0, 0, 0)], [(0, None)], [([], [])], [["a"]]]
    tuples = [(), (0,), (1,), (1, 0), (0, 1), (True,), (False, True), (None,), ("a",), ("a", "b"), ((0, 0),),
              ([], []), ((), ()), ([], [], []), ([(0, 0)], [[(0, 0)]]), ({},), ([],), (0, 0, 0)]
    dicts = [{}, {"a": "a"}, {"a": "b", "b": "a"}, {0: 0}, {True: "a"}, {None: []}, {(0, 1): (0, 1)}, {"a": []},
             {"a": {"b": {}}}]
    own = [PaneError("words"), NoRow("A"), NoSpan(0, None), [NoPlace(3)], Board("a", "b"), [Board("", "")],
           Tally([1, 0]), Asks([0], 0), One("a", "b"), [Blank("", "")], (One(".", "a"), One("a", "a")),
           Kept("a", "b"), [Kept("", "")], Costs("ab", "b"), Watch("a", "ab", 1), [Watch("", "", 0)], Ring("a", "ab"),
           [Ring("", "b")], Desk(), [Desk()]]
    great = [[0] * 19999, [(0, 0)] * 6000, [[]] * 19999, [[(0, 0)]] * 4000, ["x"] * 19999, tuple(range(19999))]
    return numbers + truths + texts + lists + tuples + dicts + own + great


def no_rows():
    return [thing for thing in odd_things() if not row_by_reading(thing)]


def some_row(chance, many, signs):
    return "".join(chance.choice(signs) for place in range(many))


def two_rows(seed, times, most, signs="ab."):
    """Rows of none to most signs, always the same ones for the same seed."""
    chance = random.Random(seed)
    return [(some_row(chance, chance.randint(0, most), signs), some_row(chance, chance.randint(0, most), signs))
            for time in range(times)]


FEW_ROWS = [("", ""), ("a", ""), ("", "a"), ("a", "a"), ("a", "b"), (".", "."), (".", "a"), ("ab", "ba"),
            ("...", ""), ("", "..."), ("aaa", "aa"), ("abc", "abc"), ("abc", "cba"), ("a.b", ".a."), ("ab", "cd")]

LONG_ROWS = [("a" * 48, "a" * 48), ("a" * 48, "b" * 48), ("." * 48, ""), ("", "z" * 48), ("ab" * 24, "ba" * 24),
             (".a" * 24, ".b" * 24), ("abcdefghijklmnopqrstuvwxyz.zyxwvutsrqponmlkjihgf", "a" * 48),
             ("thequickbrownfoxjumpsoverthelazydog", "packmyboxwithfivedozenliquorjugs")]


def many_rows(seed, times, most):
    return FEW_ROWS + two_rows(seed, times, most) + two_rows(seed + 1, times, most, "abcd.")


def lengths_by_least_ends(side, top):
    """The lengths by another way than [17]: the least column at which a thread of each length can end."""
    least = []
    told = [[0] * (len(top) + 1)]
    for sign in side:
        for column in reversed([j for j in range(len(top)) if top[j] == sign]):
            place = bisect_left(least, column)
            least[place:place + 1] = [column]
        told.append([bisect_left(least, j) for j in range(len(top) + 1)])
    return told


def longest_by_least_ends(side, top):
    return lengths_by_least_ends(side, top)[-1][-1]


def match_by_reading(side, top, thing):
    return (type(thing) is tuple and len(thing) == 2 and within(thing[0], 0, len(side) - 1)
            and within(thing[1], 0, len(top) - 1) and side[thing[0]] == top[thing[1]])


def thread_by_reading(side, top, thing):
    if type(thing) is not list or not all(match_by_reading(side, top, pair) for pair in thing):
        return False
    return all(one[0] < other[0] and one[1] < other[1] for one, other in zip(thing, thing[1:]))


def holders_in(thing):
    """All lists and dicts within a thing, itself too."""
    found = []
    if type(thing) in (list, dict):
        found.append(thing)
    if type(thing) in (list, tuple):
        for inner in thing:
            found.extend(holders_in(inner))
    if type(thing) is dict:
        for inner in thing.values():
            found.extend(holders_in(inner))
    return found


def spoil(holder):
    if type(holder) is list:
        holder.reverse()
        holder.append("spoilt")
    else:
        holder.clear()


class Case(unittest.TestCase):
    def refuses(self, error, fields, call, *handed):
        """call(*handed) raises just this error, with these very things as its fields, and changes nothing."""
        shown = repr(handed)
        caught = None
        try:
            answer = call(*handed)
        except Exception as fault:
            caught = fault
        if caught is None:
            self.fail(f"{call} let by {shown[:300]}, and told {answer!r}")
        self.assertIs(type(caught), error, shown[:300])
        self.assertIsInstance(caught, PaneError)
        self.assertIsInstance(caught, ValueError)
        for name, thing in fields.items():
            self.assertIs(getattr(caught, name), thing, name)
        self.assertEqual(repr(handed), shown)

    def tells(self, wanted, call, *handed):
        """call(*handed) tells just this, kinds and all, twice over, and changes nothing."""
        shown = repr(handed)
        self.assertEqual(repr(call(*handed)), repr(wanted), shown[:300])
        self.assertEqual(repr(call(*handed)), repr(wanted), shown[:300])
        self.assertEqual(repr(handed), shown)

    def truth(self, wanted, call, *handed):
        shown = repr(handed)
        self.assertIs(call(*handed), bool(wanted), shown[:300])
        self.assertEqual(repr(handed), shown)

    def numbers(self, told):
        self.assertIs(type(told), list)
        self.assertTrue(all(whole(number) for number in told), told)

    def pairs(self, told):
        self.assertIs(type(told), list)
        for pair in told:
            self.assertIs(type(pair), tuple)
            self.assertEqual(len(pair), 2)
            self.assertTrue(whole(pair[0]) and whole(pair[1]), pair)

    def fresh(self, call, *handed):
        """Each list and dict that is told is a new one, within one answer and from one answer to the next."""
        shown_handed = repr(handed)
        one = call(*handed)
        other = call(*handed)
        shown = repr(one)
        self.assertEqual(repr(other), shown)
        holders = holders_in(one) + holders_in(other) + holders_in(list(handed))
        self.assertEqual(len(holders), len({id(holder) for holder in holders}), shown[:300])
        for holder in holders_in(one):
            spoil(holder)
        self.assertEqual(repr(other), shown)
        self.assertEqual(repr(call(*handed)), shown)
        self.assertEqual(repr(handed), shown_handed)

    def refuses_rows_first(self, call, *further):
        """NoRow of the side, then NoRow of the top, whatever else is handed in [14]."""
        for thing in no_rows():
            self.refuses(NoRow, {"found": thing}, call, thing, "ab", *further)
            self.refuses(NoRow, {"found": thing}, call, "ab", thing, *further)
            self.refuses(NoRow, {"found": thing}, call, thing, "A", *further)
            self.refuses(NoRow, {"found": thing}, call, thing, None, *further)
        for good in ("", "." * 48, "z" * 48):
            self.refuses(NoRow, {"found": "a" * 49}, call, "a" * 49, good, *further)
            self.refuses(NoRow, {"found": "a" * 49}, call, good, "a" * 49, *further)
