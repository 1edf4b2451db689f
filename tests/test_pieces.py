"""Points [60] to [67], what [7] says of laying together, and panethread/pieces.py."""

import random
import unittest

from panethread.boards import Board
from panethread.errors import NoLetter, NoPiece, NoRow, TooLong, Unlike
from panethread.laying import laid
from panethread.pieces import Beside, Blank, One, Over, Piece, balanced, strip

from common import FEW_ROWS, LONG_ROWS, Case, no_rows, odd_things, some_row, two_rows

SIGNS = "abcdefghijklmnopqrstuvwxyz."


def sign_by_reading(thing):
    return type(thing) is str and len(thing) == 1 and thing in SIGNS


def no_signs():
    things = odd_things() + ["", "..", "ab", "A", " ", "\n", "a\n", "\n.", "-", "0", "`", "{", "/", ["a"], ("a",), {"a": 1}]
    return [thing for thing in things if not sign_by_reading(thing)]


def height_by_reading(piece):
    return max([height_by_reading(part) + 1 for part in piece.parts()], default=0)


def drawn(chance, side, top):
    """A piece of both rows, laid together in brackets as chance has it, blank pieces among them."""
    m, n = len(side), len(top)
    if m == 0 or n == 0:
        if m + n > 0 and chance.random() < 0.3:
            i, j = chance.randint(0, m), chance.randint(0, n)
            if m > 0 or (n == 0 and chance.random() < 0.5):
                return Over(drawn(chance, side[:i], top), drawn(chance, side[i:], top))
            return Beside(drawn(chance, side, top[:j]), drawn(chance, side, top[j:]))
        return Blank(side, top)
    chosen = chance.random()
    if chosen < 0.06:
        return chance.choice([lambda: Over(Blank("", top), drawn(chance, side, top)),
                              lambda: Over(drawn(chance, side, top), Blank("", top)),
                              lambda: Beside(Blank(side, ""), drawn(chance, side, top)),
                              lambda: Beside(drawn(chance, side, top), Blank(side, ""))])()
    if m == 1 and n == 1:
        return One(side, top)
    if m == 1 and chosen < 0.2:
        return strip(side, top)
    if m > 1 and (n == 1 or chance.random() < 0.5):
        cut = chance.randint(1, m - 1)
        return Over(drawn(chance, side[:cut], top), drawn(chance, side[cut:], top))
    cut = chance.randint(1, n - 1)
    return Beside(drawn(chance, side, top[:cut]), drawn(chance, side, top[cut:]))


class PieceCase(Case):
    def check(self, piece, kind, side, top, lines, parts):
        self.assertIsInstance(piece, Piece)
        self.tells(kind, piece.kind)
        self.tells(side, piece.side)
        self.tells(top, piece.top)
        self.tells(lines, piece.lines)
        self.fresh(piece.lines)
        self.check_parts(piece, parts)
        self.tells(height_by_reading(piece), piece.height)

    def check_parts(self, piece, parts):
        for time in range(2):
            told = piece.parts()
            self.assertIs(type(told), list)
            self.assertEqual(len(told), len(parts))
            for one, other in zip(told, parts):
                self.assertIs(one, other)
            told.append(None)
            told.reverse()

    def check_all(self, piece):
        """Each piece of which it is made, too, has the lines of its own board."""
        self.assertEqual(piece.lines(), Board(piece.side(), piece.top()).lines())
        self.assertEqual(piece.height(), height_by_reading(piece))
        for part in piece.parts():
            self.check_all(part)


class Kinds(PieceCase):
    def test_blank(self):
        rows = ["", "a", ".", "ab.", "z" * 48, "." * 47]
        for row in rows:
            lines = list(range(len(row)))
            self.check(Blank(row, ""), "blank", row, "", lines, [])
            self.check(Blank("", row), "blank", "", row, lines, [])
            self.tells(0, Blank("", row).height)

    def test_one(self):
        for letter in SIGNS:
            for sign in SIGNS:
                piece = One(letter, sign)
                self.check(piece, "one", letter, sign, [0, 1] if letter == sign else [1, 0], [])
                self.tells(0, piece.height)

    def test_each_stands_straight_under_piece(self):
        for kind in (Blank, One, Over, Beside):
            self.assertEqual(kind.__bases__, (Piece,))
        one, blank = One("a", "b"), Blank("", "b")
        self.assertIs(type(one), One)
        self.assertIs(type(blank), Blank)
        self.assertIs(type(Over(one, blank)), Over)
        self.assertIs(type(Beside(one, one)), Beside)

    def test_over(self):
        for side, top in FEW_ROWS + two_rows(110, 10, 7):
            for cut in range(len(side) + 1):
                upper, lower = balanced(side[:cut], top), balanced(side[cut:], top)
                piece = Over(upper, lower)
                self.check(piece, "over", side, top, Board(side, top).lines(), [upper, lower])
                self.assertEqual(piece.height(), 1 + max(upper.height(), lower.height()))

    def test_beside(self):
        for side, top in FEW_ROWS + two_rows(111, 10, 7):
            for cut in range(len(top) + 1):
                left, right = balanced(side, top[:cut]), balanced(side, top[cut:])
                piece = Beside(left, right)
                self.check(piece, "beside", side, top, Board(side, top).lines(), [left, right])
                self.assertEqual(piece.height(), 1 + max(left.height(), right.height()))

    def test_as_two_turnings_laid_together(self):
        for side, top in two_rows(112, 12, 8):
            for cut in range(len(side) + 1):
                upper, lower = balanced(side[:cut], top), balanced(side[cut:], top)
                m1, m2, n = cut, len(side) - cut, len(top)
                one = list(range(m2)) + [end + m2 for end in upper.lines()]
                other = lower.lines() + list(range(m2 + n, m2 + n + m1))
                self.tells(laid(one, other), Over(upper, lower).lines)
            for cut in range(len(top) + 1):
                left, right = balanced(side, top[:cut]), balanced(side, top[cut:])
                n1, n2, m = cut, len(top) - cut, len(side)
                one = left.lines() + list(range(m + n1, m + n1 + n2))
                other = list(range(n1)) + [end + n1 for end in right.lines()]
                self.tells(laid(one, other), Beside(left, right).lines)

    def test_one_piece_twice(self):
        piece = One("a", "b")
        self.check(Over(piece, piece), "over", "aa", "b", Board("aa", "b").lines(), [piece, piece])
        self.check(Beside(piece, piece), "beside", "a", "bb", Board("a", "bb").lines(), [piece, piece])
        self.check(piece, "one", "a", "b", [1, 0], [])

    def test_blank_on_either_side(self):
        for side, top in FEW_ROWS + two_rows(113, 8, 6):
            piece = balanced(side, top)
            lines = Board(side, top).lines()
            flat, thin = Blank("", top), Blank(side, "")
            self.check(Over(flat, piece), "over", side, top, lines, [flat, piece])
            self.check(Over(piece, flat), "over", side, top, lines, [piece, flat])
            self.check(Beside(thin, piece), "beside", side, top, lines, [thin, piece])
            self.check(Beside(piece, thin), "beside", side, top, lines, [piece, thin])

    def test_up_to_48_signs(self):
        for side, top in LONG_ROWS:
            m, n = len(side) // 2, len(top) // 3
            self.assertEqual(Over(balanced(side[:m], top), balanced(side[m:], top)).lines(), Board(side, top).lines())
            self.assertEqual(Beside(balanced(side, top[:n]), balanced(side, top[n:])).lines(), Board(side, top).lines())


class Brackets(PieceCase):
    def test_drawn_pieces(self):
        chance = random.Random(114)
        for side, top in FEW_ROWS + two_rows(115, 25, 7) + two_rows(116, 10, 8, "abcd."):
            for time in range(4):
                piece = drawn(chance, side, top)
                self.assertEqual((piece.side(), piece.top()), (side, top))
                self.check_all(piece)

    def test_long_drawn_pieces(self):
        chance = random.Random(117)
        for side, top in two_rows(118, 4, 24, "abc.") + [("ab." * 16, "b.a" * 16)]:
            piece = drawn(chance, side, top)
            self.assertEqual(piece.lines(), Board(side, top).lines())
            self.assertEqual(piece.height(), height_by_reading(piece))

    def test_three_in_both_brackets(self):
        chance = random.Random(119)
        for side, top in two_rows(120, 15, 9, "abc."):
            i, j = sorted([chance.randint(0, len(side)), chance.randint(0, len(side))])
            a, b, c = [drawn(chance, row, top) for row in (side[:i], side[i:j], side[j:])]
            self.assertEqual(Over(Over(a, b), c).lines(), Over(a, Over(b, c)).lines())
            self.assertEqual(Over(a, Over(b, c)).lines(), Board(side, top).lines())
            i, j = sorted([chance.randint(0, len(top)), chance.randint(0, len(top))])
            a, b, c = [drawn(chance, side, row) for row in (top[:i], top[i:j], top[j:])]
            self.assertEqual(Beside(Beside(a, b), c).lines(), Beside(a, Beside(b, c)).lines())
            self.assertEqual(Beside(a, Beside(b, c)).lines(), Board(side, top).lines())

    def test_four_over_and_beside(self):
        chance = random.Random(121)
        for side, top in two_rows(122, 15, 10):
            i, j = chance.randint(0, len(side)), chance.randint(0, len(top))
            a, b = drawn(chance, side[:i], top[:j]), drawn(chance, side[:i], top[j:])
            c, d = drawn(chance, side[i:], top[:j]), drawn(chance, side[i:], top[j:])
            lines = Board(side, top).lines()
            self.tells(lines, Over(Beside(a, b), Beside(c, d)).lines)
            self.tells(lines, Beside(Over(a, c), Over(b, d)).lines)


class Strips(PieceCase):
    def test_laid_from_the_left(self):
        chance = random.Random(123)
        rows = ["", "a", ".", "ab", "aaa", "a.b", "z" * 48] + [some_row(chance, many, "abc.") for many in (4, 9, 30, 48)]
        for letter in "ab.z":
            for row in rows:
                piece = strip(letter, row)
                self.assertEqual((piece.side(), piece.top()), (letter, row))
                self.tells(Board(letter, row).lines(), piece.lines)
                self.tells(max(len(row) - 1, 0), piece.height)
                self.walk(piece, letter, row)

    def walk(self, piece, letter, row):
        while len(row) > 1:
            self.assertIs(type(piece), Beside)
            left, right = piece.parts()
            self.assertIs(type(right), One)
            self.assertEqual((right.side(), right.top()), (letter, row[-1]))
            row = row[:-1]
            self.assertEqual((left.side(), left.top()), (letter, row))
            piece = left
        self.assertIs(type(piece), One if row else Blank)
        self.assertEqual((piece.side(), piece.top(), piece.parts()), (letter, row, []))

    def test_refused(self):
        for thing in no_signs():
            for row in ("", "ab", "A", None, thing):
                self.refuses(NoLetter, {"found": thing}, strip, thing, row)
        for thing in no_rows():
            self.refuses(NoRow, {"found": thing}, strip, "a", thing)
            self.refuses(NoRow, {"found": thing}, strip, ".", thing)


class BalancedPieces(PieceCase):
    def test_of_all_kinds(self):
        for side, top in FEW_ROWS + two_rows(124, 12, 9) + two_rows(125, 4, 20, "abcd."):
            piece = balanced(side, top)
            self.assertEqual((piece.side(), piece.top()), (side, top))
            self.check_all(piece)
            self.assertIn(piece.kind(), ("blank", "one", "over", "beside"))
            self.assertLessEqual(piece.height(), 12)

    def test_the_height_is_at_most_12(self):
        for side, top in LONG_ROWS + [(SIGNS + SIGNS[:21], "." * 48), ("a" * 33, "b" * 33), ("a" * 47, "ab" * 24)]:
            piece = balanced(side, top)
            self.assertTrue(type(piece.height()) is int and 0 <= piece.height() <= 12, piece.height())
            self.assertEqual(piece.height(), height_by_reading(piece))
            self.assertEqual((piece.side(), piece.top()), (side, top))
            self.tells(Board(side, top).lines(), piece.lines)
        for many in range(49):
            for far in (0, 1, 2, 17, 48):
                self.assertLessEqual(height_by_reading(balanced("a" * many, "b" * far)), 12)

    def test_refused(self):
        self.refuses_rows_first(balanced)


class NeverChange(PieceCase):
    def told(self, piece):
        return (piece.kind(), piece.side(), piece.top(), piece.lines(), piece.height(), [id(part) for part in piece.parts()])

    def test_what_is_done_to_answers_and_with_a_piece(self):
        upper, lower = strip("a", "ab."), balanced("b.", "ab.")
        pieces = [upper, lower, Over(upper, lower), Blank("", "ab."), One(".", "a")]
        before = [self.told(piece) for piece in pieces]
        for piece in pieces:
            piece.lines().reverse()
            piece.lines().append(9)
            piece.parts().clear()
            Over(piece, Blank("", piece.top()))
            Beside(piece, Blank(piece.side(), ""))
        self.assertEqual([self.told(piece) for piece in pieces], before)


class Refused(PieceCase):
    def test_blank(self):
        self.refuses_rows_first(Blank)
        for side, top in (("a", "a"), ("a", "b"), (".", "."), ("a" * 48, "b" * 48), ("ab", "z")):
            self.refuses(NoPiece, {}, Blank, side, top)
            try:
                Blank(side, top)
            except NoPiece as error:
                self.assertEqual(repr(error.found), repr((side, top)))

    def test_one(self):
        for thing in no_signs():
            for other in ("a", ".", "", None, thing):
                self.refuses(NoLetter, {"found": thing}, One, thing, other)
            self.refuses(NoLetter, {"found": thing}, One, "a", thing)
            self.refuses(NoLetter, {"found": thing}, One, ".", thing)

    def test_no_piece(self):
        good = One("a", "b")
        long = Blank("a" * 48, "")
        for thing in odd_things() + ["one", Piece, One, Board("a", "b"), [good], (good, good), good.lines(), {0: good}]:
            if isinstance(thing, Piece):
                continue
            for kind in (Over, Beside):
                for other in (good, long, thing, None, Blank("", "")):
                    self.refuses(NoPiece, {"found": thing}, kind, thing, other)
                self.refuses(NoPiece, {"found": thing}, kind, good, thing)
                self.refuses(NoPiece, {"found": thing}, kind, long, thing)

    def caught(self, error, kind, one, other):
        self.refuses(error, {}, kind, one, other)
        try:
            kind(one, other)
        except error as fault:
            return fault

    def test_unlike(self):
        for one, other in (("a", "b"), ("", "a"), ("ab", "ba"), ("a" * 48, "a" * 47), (".", "a")):
            fault = self.caught(Unlike, Over, balanced("a", one), balanced("ab", other))
            self.assertEqual(repr((fault.one, fault.other)), repr((one, other)))
            fault = self.caught(Unlike, Over, balanced("", one), balanced("", other))
            self.assertEqual(repr((fault.one, fault.other)), repr((one, other)))
            fault = self.caught(Unlike, Beside, balanced(one, "a"), balanced(other, "ab"))
            self.assertEqual(repr((fault.one, fault.other)), repr((one, other)))

    def test_too_long(self):
        for m1, m2 in ((48, 1), (1, 48), (48, 48), (25, 24), (30, 40)):
            for row in ("", "a", "ab"):
                fault = self.caught(TooLong, Over, balanced("a" * m1, row), balanced("b" * m2, row))
                self.assertEqual(repr(fault.found), repr(m1 + m2))
                fault = self.caught(TooLong, Beside, balanced(row, "a" * m1), balanced(row, "b" * m2))
                self.assertEqual(repr(fault.found), repr(m1 + m2))
            fault = self.caught(Unlike, Over, balanced("a" * m1, "a"), balanced("b" * m2, "b"))
            self.assertEqual((fault.one, fault.other), ("a", "b"))
            fault = self.caught(Unlike, Beside, balanced("a", "a" * m1), balanced("b", "b" * m2))
            self.assertEqual((fault.one, fault.other), ("a", "b"))

    def test_just_48_signs(self):
        for m1, m2 in ((48, 0), (0, 48), (24, 24), (47, 1)):
            for row in ("", "a", "ab"):
                piece = Over(balanced("a" * m1, row), balanced("b" * m2, row))
                self.tells(Board("a" * m1 + "b" * m2, row).lines(), piece.lines)
                piece = Beside(balanced(row, "a" * m1), balanced(row, "b" * m2))
                self.tells(Board(row, "a" * m1 + "b" * m2).lines(), piece.lines)


if __name__ == "__main__":
    unittest.main()
