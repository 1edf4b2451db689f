"""Points [110] to [113], what [9] says of rows that go round, and panethread/rings.py."""

import random
import unittest

from panethread.boards import Board
from panethread.errors import NoPiece, NoPlace, NoPlain, TooLong, Unlike
from panethread.pieces import Beside, Blank, One, Over, Piece, balanced, strip
from panethread.rings import Ring

from common import (Case, lengths_by_least_ends, longest_by_least_ends, odd_things, plain_by_reading, some_row,
                    thread_by_reading, two_rows, within)
from test_heaps import peeled
from test_pieces import height_by_reading

FEW = [("", "a"), ("a", "a"), ("a", "b"), ("ab", "ba"), ("abc", "cab"), ("abab", "ab"), ("aaa", "aaaaa"), ("xyz", "abc"),
       ("abc", "abcabc"), ("ba", "aabaab"), ("z", "abcdefz")]
LONG = [("a" * 24, "a" * 24), ("a" * 24, "b" * 24), ("", "z" * 24), ("ab" * 12, "ba" * 12), ("a", "bcd" * 8),
        ("thequickbrownfoxjumpsove", "packmyboxwithfivedozenli"), ("abcdefghijklmnopqrstuvwx", "cdefghijklmnopqrstuvwxyz")]
ROWS = FEW + [(side, row) for side, row in two_rows(210, 20, 7, "ab") + two_rows(211, 20, 9, "abc") if row] + LONG


def openings_by_reading(row):
    made = [row]
    while len(made) < len(row):
        made.append(made[-1][1:] + made[-1][0])
    return made


class Told(Case):
    def test_openings(self):
        for side, row in ROWS:
            ring = Ring(side, row)
            for place, opening in enumerate(openings_by_reading(row)):
                self.tells(opening, ring.opening, place)

    def test_lengths(self):
        for side, row in ROWS:
            ring = Ring(side, row)
            wanted = [longest_by_least_ends(side, opening) for opening in openings_by_reading(row)]
            self.tells(wanted, ring.lengths)
            self.fresh(ring.lengths)
            for place, length in enumerate(wanted):
                self.tells(length, ring.length, place)
            self.tells((max(wanted), wanted.index(max(wanted))), ring.best)

    def test_stretches(self):
        for side, row in ROWS:
            ring = Ring(side, row)
            for place, opening in enumerate(openings_by_reading(row)):
                for many, length in enumerate(lengths_by_least_ends(side, opening)[-1]):
                    self.assertEqual(repr(ring.stretch(place, many)), repr(length))

    def test_papers(self):
        for side, row in FEW + ROWS[11:40] + LONG[3:4]:
            ring, n = Ring(side, row), len(row)
            for place, opening in enumerate(openings_by_reading(row)):
                paper = ring.paper(place)
                self.assertIs(type(paper), tuple)
                self.assertEqual(len(paper), 2)
                self.pairs(paper[0])
                thread = [(i, (j - place) % n) for i, j in paper[0]]
                self.assertTrue(all(0 <= j < n for i, j in paper[0]))
                self.assertTrue(thread_by_reading(side, opening, thread))
                self.assertEqual(len(thread), longest_by_least_ends(side, opening))
                heaps = [[(i, (place + j) % n) for i, j in heap] for heap in peeled(side, opening)]
                self.assertEqual(repr(paper[1]), repr(heaps))
                self.assertEqual(repr(ring.paper(place)), repr(paper))
            self.fresh(ring.paper, len(row) - 1)

    def test_least(self):
        for side, row in ROWS:
            openings = openings_by_reading(row)
            least = sorted(openings)[0]
            self.tells((least, openings.index(least)), Ring(side, row).least)

    def test_some_plain_cases(self):
        ring = Ring("abc", "cab")
        self.tells("abc", ring.opening, 1)
        self.tells([2, 3, 2], ring.lengths)
        self.tells((3, 1), ring.best)
        self.tells(("abc", 1), ring.least)
        self.tells(0, ring.stretch, 2, 0)
        self.tells(([(0, 1), (1, 2), (2, 0)], [[(0, 1)], [(1, 2)], [(2, 0)]]), ring.paper, 1)
        self.tells((0, 0), Ring("", "ba").best)
        self.tells(("ab", 1), Ring("", "ba").least)
        self.tells(("aaa", 0), Ring("", "aaa").least)
        self.tells(("aabaab", 0), Ring("", "aabaab").least)
        self.tells(("aabaab", 2), Ring("", "abaaba").least)


class IsSame(Case):
    def test_drawn_rings(self):
        chance = random.Random(212)
        rows = [row for side, row in FEW] + [some_row(chance, many, "ab") for many in range(1, 7) for time in range(3)]
        right = 0
        for row in rows:
            ring = Ring(some_row(chance, 2, "ab"), row)
            openings = openings_by_reading(row)
            self.truth(True, ring.is_same, ring)
            for other in openings:
                self.truth(True, ring.is_same, Ring("", other))
                self.truth(True, Ring("xyz", other).is_same, ring)
            for other in rows + [row + row, row[::-1], row + "a", row[1:] or "b"]:
                right += other in openings
                self.truth(other in openings, ring.is_same, Ring("ab", other))
        self.assertGreater(right, 30)

    def test_a_part_is_not_the_same(self):
        self.truth(False, Ring("", "abab").is_same, Ring("", "ab"))
        self.truth(False, Ring("", "ab").is_same, Ring("", "abab"))
        self.truth(False, Ring("", "ab").is_same, Ring("", "a"))
        self.truth(False, Ring("", "a" * 24).is_same, Ring("", "a" * 23))

    def test_no_ring(self):
        ring = Ring("ab", "ab")
        pieces = [One("a", "b"), Blank("", "ab"), balanced("ab", "abab"), Over(ring, ring), Beside(strip("a", "b"), One("a", "a"))]
        for thing in odd_things() + pieces + ["ab", ["ab"], [ring], (ring,), {0: ring}] + ring.parts():
            if type(thing) is not Ring:
                self.refuses(NoPiece, {"found": thing}, ring.is_same, thing)


class AsPiece(Case):
    def check(self, ring, side, row):
        self.assertIsInstance(ring, Piece)
        self.tells("ring", ring.kind)
        self.tells(side, ring.side)
        self.tells(row + row, ring.top)
        self.tells(Board(side, row + row).lines(), ring.lines)
        self.fresh(ring.lines)
        parts = ring.parts()
        self.assertIs(type(parts), list)
        self.assertEqual(len(parts), 2)
        for part, again in zip(parts, ring.parts()):
            self.assertIs(part, again)
            self.assertIsInstance(part, Piece)
            self.tells(side, part.side)
            self.tells(row, part.top)
            self.tells(Board(side, row).lines(), part.lines)
            self.assertEqual(part.height(), height_by_reading(part))
        self.tells(1 + max(part.height() for part in parts), ring.height)
        parts.clear()
        self.assertEqual(len(ring.parts()), 2)

    def test_drawn(self):
        for side, row in ROWS:
            self.check(Ring(side, row), side, row)

    def test_straight_under_piece(self):
        self.assertEqual(Ring.__bases__, (Piece,))
        self.assertIs(type(Ring("a", "b")), Ring)

    def test_over_and_beside_with_rings_and_others(self):
        chance = random.Random(213)
        for side, row in [pair for pair in ROWS if len(pair[1]) <= 9]:
            ring, top = Ring(side, row), row + row
            other = some_row(chance, chance.randint(0, 5), "abc.")
            for piece in (balanced(other, top), Ring(some_row(chance, 3, "ab"), row)):
                laid = Over(ring, piece)
                self.tells(Board(side + piece.side(), top).lines(), laid.lines)
                self.assertEqual((laid.top(), laid.height()), (top, 1 + max(ring.height(), piece.height())))
                self.assertIs(laid.parts()[0], ring)
                self.tells(Board(piece.side() + side, top).lines(), Over(piece, ring).lines)
            for piece in (balanced(side, other), Ring(side, some_row(chance, 3, "ab")), ring):
                laid = Beside(ring, piece)
                self.tells(Board(side, top + piece.top()).lines(), laid.lines)
                self.assertEqual((laid.side(), laid.height()), (side, 1 + max(ring.height(), piece.height())))
                self.assertIs(laid.parts()[0], ring)
                self.tells(Board(side, piece.top() + top).lines(), Beside(piece, ring).lines)
            self.check(ring, side, row)

    def test_two_rings_of_one_top(self):
        one, other = Ring("ab", "abab"), Ring("ba", "abab")
        self.tells(Board("abba", "abababab").lines(), Over(one, other).lines)

    def test_laying_refuses_with_all_letters_of_the_top(self):
        ring = Ring("a", "ab" * 12)
        for call in (lambda: Beside(ring, One("a", "b")), lambda: Beside(One("a", "b"), ring)):
            self.refuses(TooLong, {}, call)
            try:
                call()
            except TooLong as error:
                self.assertEqual(repr(error.found), "49")
        try:
            Beside(ring, ring)
        except TooLong as error:
            self.assertEqual(repr(error.found), "96")
        self.refuses(TooLong, {}, Beside, ring, ring)
        try:
            Over(Ring("a", "ab"), balanced("a", "ab"))
        except Unlike as error:
            self.assertEqual((error.one, error.other), ("abab", "ab"))
        self.refuses(Unlike, {}, Over, Ring("a", "ab"), balanced("a", "ab"))
        self.refuses(Unlike, {}, Beside, Ring("a", "ab"), Ring("b", "ab"))
        self.tells(Board("a" * 48, "ab" * 24).lines(), Over(Ring("a" * 24, "ab" * 12), Ring("a" * 24, "ab" * 12)).lines)

    def test_it_never_changes(self):
        ring = Ring("abc", "bca")
        told = lambda: repr((ring.side(), ring.top(), ring.lines(), ring.height(), ring.lengths(), ring.best(), ring.least(),
                             [ring.paper(place) for place in range(3)], [id(part) for part in ring.parts()]))
        shown = told()
        for holder in (ring.lines(), ring.parts(), ring.lengths(), ring.paper(1)[0], ring.paper(1)[1], ring.paper(1)[1][0]):
            holder.reverse()
            holder.clear()
        Ring("abc", "bca")
        ring.is_same(Ring("", "abc"))
        self.assertEqual(told(), shown)


class Refused(Case):
    def test_no_plain(self):
        for thing in odd_things() + ["a.", ".", "a" * 25, "aB"]:
            if not plain_by_reading(thing):
                for row in ("ab", "", "A", None, thing):
                    self.refuses(NoPlain, {"found": thing}, Ring, thing, row)
            if not plain_by_reading(thing) or thing == "":
                for side in ("", "ab", "a" * 24):
                    self.refuses(NoPlain, {"found": thing}, Ring, side, thing)

    def test_no_place(self):
        for side, row in (("", "a"), ("ab", "aba"), ("a" * 24, "b" * 24)):
            ring, n = Ring(side, row), len(row)
            for thing in odd_things() + [n, n + 1, -1, "0"]:
                if not within(thing, 0, n - 1):
                    for call in (ring.opening, ring.length, ring.paper):
                        self.refuses(NoPlace, {"found": thing}, call, thing)
                    for many in (0, n, n + 1, -1, None):
                        self.refuses(NoPlace, {"found": thing}, ring.stretch, thing, many)
                if not within(thing, 0, n):
                    for place in (0, n - 1):
                        self.refuses(NoPlace, {"found": thing}, ring.stretch, place, thing)


if __name__ == "__main__":
    unittest.main()
