"""Points [6] to [9] over the whole program: the questions of a desk against all other files and plain reckoning."""

import random
import unittest

from panethread.apart import apart, apart_near, shows_apart
from panethread.asks import asks_of
from panethread.boards import Board
from panethread.changes import done, paid
from panethread.costs import Costs, cost, shows_cost
from panethread.desk import Desk
from panethread.kept import Kept
from panethread.near import followed, near
from panethread.pieces import Beside, Over, balanced
from panethread.rings import Ring
from panethread.twice import shows_twice, twice
from panethread.watch import Watch
from panethread.windows import shows_window
from panethread.words import read_changes, read_heaps, read_numbers, read_pairs

from common import Case, longest_by_least_ends, some_row, two_rows
from test_costs import reckoned
from test_near import near_by_reading
from test_tallies import spans
from test_twice import lengths_by_reading

FEW = [("", ""), ("a", ""), ("", "ab"), ("a", "a"), ("ab", "ba"), ("aba", "bab"), ("abcb", "bcab"), ("aaa", "aa"), ("abc", "xyz")]
ROWS = FEW + two_rows(280, 6, 5, "ab") + two_rows(281, 6, 6, "abc")
LONG = [("thequickbrownfoxjumpsove", "packmyboxwithfivedozenli"), ("ab" * 12, "ba" * 12), ("a" * 24, "a" * 23 + "b")]


def desk_of(side, top):
    desk = Desk()
    desk.ask(f"rows {side or '-'} {top or '-'}")
    return desk


def all_windows(m, n):
    return [(first, last, begin, end) for first, last in spans(m) for begin, end in spans(n)
            if (first == 0 or begin == 0) and (last == m or end == n)]


class Questions(Case):
    def asked(self, desk, *words):
        return desk.ask(" ".join(str(word) for word in words))

    def windows_of(self, side, top, windows):
        desk, asks = desk_of(side, top), asks_of(side, top)
        for window in windows:
            first, last, begin, end = window
            length = longest_by_least_ends(side[first:last], top[begin:end])
            self.assertEqual(asks.window(*window), length)
            self.assertEqual(self.asked(desk, "window", *window), str(length))
            thread = read_pairs(self.asked(desk, "thread", *window))
            self.assertEqual(len(thread), length)
            pairs, heaps = self.asked(desk, "paper", *window).split(" ")
            paper = (read_pairs(pairs), read_heaps(heaps))
            self.assertEqual((len(paper[0]), len(paper[1])), (length, length))
            self.truth(True, shows_window, side, top, *window, paper)
            self.truth(True, shows_window, side, top, *window, (thread, paper[1]))

    def test_windows(self):
        for side, top in ROWS:
            self.windows_of(side, top, all_windows(len(side), len(top)))
        chance = random.Random(282)
        for side, top in LONG:
            self.windows_of(side, top, chance.sample(all_windows(len(side), len(top)), 25))

    def test_the_four_kinds_of_windows(self):
        for side, top in ROWS:
            desk, asks, m, n = desk_of(side, top), asks_of(side, top), len(side), len(top)
            for begin, end in spans(n):
                self.assertEqual(self.asked(desk, "stretch", begin, end), str(asks.stretch(begin, end)))
            for first, last in spans(m):
                self.assertEqual(self.asked(desk, "across", first, last), str(asks.across(first, last)))
            for i in range(m + 1):
                for j in range(n + 1):
                    self.assertEqual(self.asked(desk, "beginning", i, j), str(longest_by_least_ends(side[:i], top[j:])))
                    self.assertEqual(self.asked(desk, "ending", i, j), str(longest_by_least_ends(side[i:], top[:j])))
            for length in list(range(m + 2)) + [96]:
                tightest = read_pairs(self.asked(desk, "tightest", length))
                self.assertEqual(tightest, asks.tightest(length))
                shortest = min(tightest, key=lambda span: (span[1] - span[0], span), default=None)
                wanted = "none" if shortest is None else f"{shortest[0]} {shortest[1]}"
                self.assertEqual(self.asked(desk, "shortest", length), wanted)

    def test_costs(self):
        for side, top in ROWS + LONG:
            desk, costs = desk_of(side, top), Costs(side, top)
            chosen = spans(len(top)) if len(top) < 10 else [(0, len(top)), (3, 17), (5, 5)]
            for begin, end in chosen:
                self.assertEqual(self.asked(desk, "cost", begin, end), str(reckoned(side, top[begin:end])))
            self.assertEqual(self.asked(desk, "best"), "{} {} {}".format(*costs.best()))
            changes = read_changes(self.asked(desk, "changes"))
            self.assertEqual((done(side, changes), paid(changes)), (top, reckoned(side, top)))

    def test_near_and_apart(self):
        for side, top in ROWS + LONG[:1]:
            desk = desk_of(side, top)
            for most in (0, 1, 2, 3, 7, 24, 48):
                listed = near_by_reading(side, top, most)
                word = ",".join(f"{pay}:{begin}:{end}" for pay, begin, end in listed) or "-"
                self.assertEqual(self.asked(desk, "near", most), word)
                self.assertEqual(near(side, top, most), listed)
                told = apart_near(side, top, most)
                self.assertEqual(self.asked(desk, "apart", most), str(told[0]))
                self.truth(True, shows_apart, len(top), [(most + 1 - pay, begin, end) for pay, begin, end in listed], told)

    def test_rings(self):
        for side, top in ROWS + LONG:
            if top == "":
                continue
            desk, ring = desk_of(side, top), Ring(side, top)
            lengths = [longest_by_least_ends(side, top[place:] + top[:place]) for place in range(len(top))]
            self.assertEqual(read_numbers(self.asked(desk, "openings")), lengths)
            self.assertEqual(ring.lengths(), lengths)
            self.assertEqual(self.asked(desk, "ring"), "{} {}".format(*ring.best()))

    def test_twice(self):
        for side, top in ROWS + LONG:
            cut, firsts, seconds = self.asked(desk_of(side, top), "twice").split(" ")
            lengths = lengths_by_reading(side)
            self.assertEqual(int(cut), lengths.index(max(lengths)))
            self.truth(True, shows_twice, side, (int(cut), read_numbers(firsts), read_numbers(seconds), twice(side)[3]))

    def test_lines(self):
        for side, top in ROWS + LONG:
            self.assertEqual(read_numbers(self.asked(desk_of(side, top), "lines")), Board(side, top).lines())


class Lines(Case):
    def test_turned_and_exchanged(self):
        for side, top in ROWS + LONG:
            desk = desk_of(side, top)
            lines = read_numbers(desk.ask("lines"))
            last = len(lines) - 1
            desk.ask("swap")
            other = read_numbers(desk.ask("lines"))
            self.assertEqual([other[last - line] for line in range(last + 1)], [last - end for end in lines])
            desk.ask("undo")
            desk.ask("turn")
            other = read_numbers(desk.ask("lines"))
            self.assertEqual([other[last - end] for end in lines], [last - line for line in range(last + 1)])

    def test_one_row_four_ways(self):
        """The same deeds to a desk, a watch and a kept row, and pieces laid together of what comes of them."""
        chance = random.Random(283)
        for side, top in ROWS:
            desk, watch, kept = desk_of(side, top), Watch(side, top, 3), Kept(side, top)
            heard = watch.told()
            for time in range(12):
                place, letter = chance.randint(0, len(side)), chance.choice("abc")
                if chance.random() < 0.6 or place == len(side):
                    side = side[:place] + letter + side[place:]
                    told, news = desk.ask(f"put side {place} {letter}"), watch.put("side", place, letter)
                    kept.put(place, letter)
                else:
                    side = side[:place] + side[place + 1:]
                    told, news = desk.ask(f"drop side {place}"), watch.drop("side", place)
                    kept.drop(place)
                self.assertEqual(told, f"{side or '-'} {top or '-'}")
                heard = followed(heard, news)
                self.assertEqual(heard, near_by_reading(side, top, 3))
                lines = Board(side, top).lines()
                self.assertEqual(kept.lines(), lines)
                self.assertEqual(read_numbers(desk.ask("lines")), lines)
                i, j = chance.randint(0, len(side)), chance.randint(0, len(top))
                self.assertEqual(Over(balanced(side[:i], top), balanced(side[i:], top)).lines(), lines)
                self.assertEqual(Beside(balanced(side, top[:j]), balanced(side, top[j:])).lines(), lines)


class Shown(Case):
    def test_nothing_is_cheaper(self):
        for side, top in ROWS:
            watch = Watch(side, top, 48)
            for rank, (pay, begin, end) in enumerate(watch.told()):
                self.truth(True, shows_cost, side, top[begin:end], watch.paper(rank))
                self.assertEqual(pay, cost(side, top[begin:end]))

    def test_nobody_chooses_more(self):
        chance = random.Random(284)
        for side, top in ROWS:
            stretches = [(5 - pay, begin, end) for pay, begin, end in near(side, top, 4)]
            most = apart(len(top), stretches)[0]
            for time in range(10):
                held, worth = set(), 0
                for one in chance.sample(stretches, len(stretches)):
                    if not held & set(range(one[1], one[2])):
                        held |= set(range(one[1], one[2]))
                        worth += one[0]
                self.assertLessEqual(worth, most)

    def test_what_holds_of_each_opening(self):
        chance = random.Random(285)
        for side, row in ROWS:
            if row == "":
                continue
            ring, other = Ring(side, row), Ring(some_row(chance, 3, "ab"), row)
            for place in range(len(row)):
                opened = Ring(side, ring.opening(place))
                self.assertEqual(opened.lengths(), ring.lengths()[place:] + ring.lengths()[:place])
                self.assertEqual(opened.best()[0], ring.best()[0])
                self.assertEqual(opened.least()[0], ring.least()[0])
                self.truth(True, opened.is_same, other)
                self.assertEqual([len(heap) for heap in opened.paper(0)[1]], [len(heap) for heap in ring.paper(place)[1]])


if __name__ == "__main__":
    unittest.main()
