"""Points [70] to [77], what [7] says of kept rows, and panethread/kept.py."""

import random
import unittest

from panethread.boards import Board
from panethread.errors import NoLetter, NoPlace, NoRow, NoSpan, TooLong
from panethread.kept import Kept

from common import FEW_ROWS, LONG_ROWS, Case, odd_things, row_by_reading, some_row, two_rows, whole, within
from test_pieces import no_signs
from test_tallies import span_by_reading, spans


def numbers_of(kept):
    return [piece[0] for piece in kept.pieces()]


def told_by(kept):
    """All that a kept row tells at a moment, but for covers and lines between."""
    pieces = kept.pieces()
    return repr((kept.side(), kept.top(), kept.lines(), kept.height(), kept.made(), pieces,
                 [kept.piece_lines(piece[0]) for piece in pieces]))


def all_told_by(kept):
    every = spans(len(kept.side()))
    return told_by(kept) + repr([(kept.cover(*span), kept.between(*span)) for span in every])


class Follower:
    """What may be known of a kept row from all that it told so far."""

    def __init__(self, case, kept):
        self.case, self.kept = case, kept
        self.known = {}
        self.standing = []
        self.side, self.top = kept.side(), kept.top()
        self.look(most=None)

    def look(self, most):
        """All promises behind a deed; most is how many pieces it may have made, None where all are new ones."""
        case, kept = self.case, self.kept
        case.assertEqual((kept.side(), kept.top()), (self.side, self.top))
        case.assertEqual(kept.lines(), Board(self.side, self.top).lines())
        pieces = kept.pieces()
        self.look_at_tree(pieces)
        self.look_at_numbers(pieces)
        numbers = [piece[0] for piece in pieces]
        made = [number for number in numbers if number not in self.standing]
        case.assertEqual(repr(kept.made()), repr(len(made)))
        if most is None:
            case.assertEqual(made, numbers)
        else:
            case.assertLessEqual(len(made), most)
        self.gone = [number for number in self.known if number not in numbers]
        self.standing = numbers

    def look_at_tree(self, pieces):
        case, side = self.case, self.side
        case.assertIs(type(pieces), list)
        case.assertEqual(len(pieces), max(2 * len(side) - 1, 0))
        by_number = {}
        for piece in pieces:
            case.assertIs(type(piece), tuple)
            case.assertEqual(len(piece), 5)
            case.assertTrue(all(whole(number) for number in piece[:3]) and piece[0] >= 1, piece)
            by_number[piece[0]] = piece
        case.assertEqual(len(by_number), len(pieces))
        case.assertEqual(pieces, sorted(pieces, key=lambda piece: (piece[1], piece[1] - piece[2])))
        heights = {}
        parts = []
        for number, first, last, upper, lower in sorted(pieces, key=lambda piece: piece[2] - piece[1]):
            if last - first == 1:
                case.assertEqual((upper, lower), (None, None))
                heights[number] = 0
                continue
            case.assertTrue(whole(upper) and whole(lower))
            one, other = by_number[upper], by_number[lower]
            case.assertEqual((one[1], one[2], other[2]), (first, other[1], last))
            case.assertTrue(first < one[2] < last)
            case.assertLessEqual(abs(heights[upper] - heights[lower]), 1)
            heights[number] = 1 + max(heights[upper], heights[lower])
            parts += [upper, lower]
        case.assertEqual(len(parts), len(set(parts)))
        case.assertEqual([number for number in by_number if number not in parts], [piece[0] for piece in pieces[:1]])
        if pieces:
            case.assertEqual(pieces[0][1:3], (0, len(side)))
        height = heights[pieces[0][0]] if pieces else 0
        case.assertEqual(repr(self.kept.height()), repr(height))
        case.assertLessEqual(height, 7)

    def look_at_numbers(self, pieces):
        for number, first, last, upper, lower in pieces:
            what = (self.side[first] if upper is None else (upper, lower), self.top)
            if number in self.standing:
                self.case.assertEqual(self.known[number], what)
            else:
                self.case.assertNotIn(number, self.known)
            self.known[number] = what

    def look_at_lines(self):
        for number, first, last, upper, lower in self.kept.pieces():
            self.case.tells(Board(self.side[first:last], self.top).lines(), self.kept.piece_lines, number)

    def look_at_stretches(self, chosen):
        pieces = self.kept.pieces()
        for first, last in chosen:
            within_it = [piece for piece in pieces if first <= piece[1] and piece[2] <= last]
            parts = [part for piece in within_it for part in piece[3:]]
            wanted = [piece[0] for piece in sorted(within_it, key=lambda piece: piece[1]) if piece[0] not in parts]
            self.case.tells(wanted, self.kept.cover, first, last)
            self.case.tells(Board(self.side[first:last], self.top).lines(), self.kept.between, first, last)

    def put(self, place, sign):
        self.case.assertIsNone(self.kept.put(place, sign))
        self.side = self.side[:place] + sign + self.side[place:]
        self.look(most=23)

    def drop(self, place):
        self.case.assertEqual(repr(self.kept.drop(place)), repr(self.side[place]))
        self.side = self.side[:place] + self.side[place + 1:]
        self.look(most=23)

    def change(self, place, sign):
        self.case.assertEqual(repr(self.kept.change(place, sign)), repr(self.side[place]))
        self.side = self.side[:place] + sign + self.side[place + 1:]
        self.look(most=23)

    def retop(self, top):
        self.case.assertIsNone(self.kept.retop(top))
        self.top = top
        self.look(most=None)

    def drawn_deed(self, chance, lean="put drop change"):
        """One deed as chance has it; lean tells which of them, and how often each."""
        m = len(self.side)
        deed = chance.choice(lean.split())
        if deed == "put" and m < 48:
            self.put(chance.choice([0, m, chance.randint(0, m)]), chance.choice("abc."))
        elif deed == "drop" and m > 0:
            self.drop(chance.choice([0, m - 1, chance.randrange(m)]))
        elif deed == "change" and m > 0:
            self.change(chance.randrange(m), chance.choice("abc."))
        elif deed == "retop":
            self.retop(some_row(chance, chance.randint(0, 6), "abc."))


class Making(Case):
    def test_of_all_kinds(self):
        for side, top in FEW_ROWS + two_rows(150, 12, 12) + LONG_ROWS:
            follower = Follower(self, Kept(side, top))
            self.tells(side, follower.kept.side)
            self.tells(top, follower.kept.top)
            self.tells(Board(side, top).lines(), follower.kept.lines)
            self.assertEqual(follower.kept.made(), max(2 * len(side) - 1, 0))

    def test_every_number_of_signs(self):
        for many in range(49):
            follower = Follower(self, Kept(("ab." * 16)[:many], "ba"))
            follower.look_at_lines()

    def test_pieces_and_stretches(self):
        for side, top in FEW_ROWS + two_rows(151, 12, 12):
            follower = Follower(self, Kept(side, top))
            follower.look_at_lines()
            follower.look_at_stretches(spans(len(side)))

    def test_of_48_signs(self):
        chance = random.Random(152)
        for side, top in LONG_ROWS:
            follower = Follower(self, Kept(side, top))
            follower.look_at_lines()
            every = spans(len(side))
            follower.look_at_stretches(chance.sample(every, min(40, len(every))))

    def test_no_signs(self):
        for top in ("", "a", "." * 48):
            kept = Kept("", top)
            self.tells("", kept.side)
            self.tells([], kept.pieces)
            self.tells(0, kept.height)
            self.tells(0, kept.made)
            self.tells(list(range(len(top))), kept.lines)
            self.tells([], kept.cover, 0, 0)
            self.tells(list(range(len(top))), kept.between, 0, 0)
            self.fresh(kept.between, 0, 0)

    def test_told_anew(self):
        for side, top in FEW_ROWS + [("ab.ab", "b.a")]:
            kept = Kept(side, top)
            self.fresh(kept.lines)
            self.fresh(kept.pieces)
            for number in numbers_of(kept):
                self.fresh(kept.piece_lines, number)
            for first, last in spans(len(side)):
                self.fresh(kept.cover, first, last)
                self.fresh(kept.between, first, last)

    def test_refused(self):
        self.refuses_rows_first(Kept)


class Deeds(Case):
    def test_drawn_deeds(self):
        chance = random.Random(153)
        leans = ["put drop change", "put put put change", "drop drop put change", "put drop change retop"]
        for side, top in FEW_ROWS + two_rows(154, 8, 10):
            follower = Follower(self, Kept(side, top))
            for lean in leans:
                for time in range(12):
                    follower.drawn_deed(chance, lean)
                follower.look_at_lines()
                follower.look_at_stretches(spans(len(follower.side)))

    def test_up_to_48_signs_and_down_to_none(self):
        for seed, top in ((155, "ab."), (156, ""), (157, "b" * 4)):
            chance = random.Random(seed)
            follower = Follower(self, Kept("", top))
            while len(follower.side) < 48:
                follower.drawn_deed(chance, "put put put change drop")
            follower.look_at_lines()
            follower.look_at_stretches(chance.sample(spans(48), 60))
            while follower.side:
                follower.drawn_deed(chance, "drop drop drop drop change put")
            follower.look_at_lines()
            follower.put(0, "a")
            follower.put(1, ".")
            follower.look_at_lines()

    def test_always_at_one_place(self):
        places = [lambda m: 0, lambda m: m, lambda m: m // 2, lambda m: m // 3]
        for put_at in places:
            for drop_at in places:
                follower = Follower(self, Kept("", "ab"))
                for time in range(48):
                    follower.put(put_at(len(follower.side)), "abc."[time % 4])
                for time in range(48):
                    follower.drop(min(drop_at(len(follower.side)), len(follower.side) - 1))
                self.assertEqual(follower.kept.pieces(), [])

    def test_many_drops_of_high_trees(self):
        chance = random.Random(158)
        greatest = 0
        for time in range(12):
            follower = Follower(self, Kept("", "a"))
            for step in range(48):
                follower.put(len(follower.side) if time % 2 else chance.randint(0, len(follower.side)), "a")
            for step in range(47):
                follower.drop(chance.randrange(len(follower.side)))
                greatest = max(greatest, follower.kept.made())
        self.assertTrue(0 < greatest <= 23)

    def test_long_rows(self):
        chance = random.Random(159)
        for side, top in LONG_ROWS[:1] + LONG_ROWS[4:5] + LONG_ROWS[7:]:
            follower = Follower(self, Kept(side, top))
            for time in range(8):
                follower.drawn_deed(chance, "drop change put")
            follower.look_at_lines()
            follower.look_at_stretches(chance.sample(spans(len(follower.side)), 20))

    def test_change_to_the_same_sign(self):
        follower = Follower(self, Kept("ab.ab", "ba"))
        for place, sign in enumerate("ab.ab"):
            follower.change(place, sign)
            follower.look_at_lines()

    def test_retop(self):
        for side in ("", "a", "ab.", "abcab" * 4):
            follower = Follower(self, Kept(side, "ab"))
            for top in ("ab", "ab", "", "", "a" * 48, "ab", "." * 7):
                before = numbers_of(follower.kept)
                follower.retop(top)
                self.assertFalse(set(before) & set(numbers_of(follower.kept)))
                self.assertEqual(follower.kept.made(), len(follower.kept.pieces()))
                follower.look_at_lines()

    def test_retop_behind_other_deeds(self):
        follower = Follower(self, Kept("abab", "ab"))
        follower.drop(1)
        follower.put(3, "c")
        follower.retop("abc")
        follower.change(0, "c")
        follower.retop("abc")
        follower.look_at_lines()
        follower.look_at_stretches(spans(4))

    def test_some_plain_cases(self):
        kept = Kept("ab", "ba")
        self.assertIsNone(kept.put(1, "."))
        self.tells("a.b", kept.side)
        self.assertEqual(kept.drop(0), "a")
        self.tells(".b", kept.side)
        self.assertEqual(kept.change(1, "z"), "b")
        self.tells(".z", kept.side)
        self.assertIsNone(kept.put(2, "q"))
        self.tells(".zq", kept.side)
        self.assertIsNone(kept.retop("zq"))
        self.tells("zq", kept.top)
        self.tells(Board(".zq", "zq").lines(), kept.lines)

    def test_questions_are_no_deeds(self):
        kept = Kept("abcabc", "cab")
        kept.put(3, ".")
        shown = all_told_by(kept)
        made = kept.made()
        self.assertTrue(0 < made < len(kept.pieces()))
        for time in range(3):
            self.assertEqual(all_told_by(kept), shown)
            kept.twin()
            self.refuses(NoPlace, {"found": 99}, kept.drop, 99)
            self.assertEqual(kept.made(), made)

    def test_two_kept_rows_have_nothing_to_do_with_one_another(self):
        one, other = Kept("abc", "ab"), Kept("abc", "ab")
        shown = all_told_by(other)
        one.put(0, "z")
        one.retop("z")
        one.lines().clear()
        one.pieces().clear()
        self.assertEqual(all_told_by(other), shown)


class Numbers(Case):
    def test_what_stands_no_longer_is_refused(self):
        chance = random.Random(160)
        follower = Follower(self, Kept("abcabc", "ab"))
        for time in range(60):
            follower.drawn_deed(chance, "put drop change change retop" if time % 9 == 0 else "put drop change")
            for number in follower.gone:
                self.refuses(NoPlace, {"found": number}, follower.kept.piece_lines, number)

    def test_any_thing(self):
        for side in ("", "a", "ab.a"):
            kept = Kept(side, "ba")
            numbers = numbers_of(kept)
            shown = all_told_by(kept)
            for thing in odd_things() + [max(numbers, default=0) + 1, 0, -1, str(max(numbers, default=1))]:
                if not (whole(thing) and thing in numbers):
                    self.refuses(NoPlace, {"found": thing}, kept.piece_lines, thing)
            for number in numbers:
                for thing in (str(number), [number], (number,), {number: number}, -number):
                    self.refuses(NoPlace, {"found": thing}, kept.piece_lines, thing)
            self.assertEqual(all_told_by(kept), shown)

    def test_true_is_no_number(self):
        kept = Kept("a", "a")
        for time in range(3):
            self.refuses(NoPlace, {"found": True}, kept.piece_lines, True)
            self.refuses(NoPlace, {"found": False}, kept.piece_lines, False)
            kept.change(0, "b")


class Stretches(Case):
    def test_no_span(self):
        for side in ("", "a", "ab.ab", "a" * 48):
            kept, m = Kept(side, "ab"), len(side)
            shown = told_by(kept)
            things = odd_things() + [m + 1, -1, "0", True]
            wrong = [(thing, m) for thing in things] + [(0, thing) for thing in things]
            wrong += [(thing, thing) for thing in things] + [(1, 0), (m, m - 1), (m + 1, m + 1), (-1, m)]
            for first, last in wrong:
                if not span_by_reading(first, last, m):
                    self.refuses(NoSpan, {"begin": first, "end": last}, kept.cover, first, last)
                    self.refuses(NoSpan, {"begin": first, "end": last}, kept.between, first, last)
            self.assertEqual(told_by(kept), shown)

    def test_spans_of_the_row_as_it_is(self):
        kept = Kept("ab", "a")
        self.refuses(NoSpan, {"begin": 0, "end": 3}, kept.cover, 0, 3)
        kept.put(2, "c")
        self.tells(Board("abc", "a").lines(), kept.between, 0, 3)
        kept.drop(0)
        self.refuses(NoSpan, {"begin": 0, "end": 3}, kept.between, 0, 3)
        self.tells(Board("bc", "a").lines(), kept.between, 0, 2)


class Refused(Case):
    def check(self, kept, error, fields, call, *handed):
        shown = told_by(kept)
        self.refuses(error, fields, call, *handed)
        self.assertEqual(told_by(kept), shown)

    def some_kept(self):
        made = [Kept("", ""), Kept("", "ab"), Kept("ab.", "ba"), Kept("a", "")]
        made[2].put(1, "c")
        made[2].drop(0)
        return made

    def test_put(self):
        for kept in self.some_kept():
            m = len(kept.side())
            for thing in odd_things() + [m + 1, -1, "0"]:
                if not within(thing, 0, m):
                    for sign in ("a", ".", "", None, thing):
                        self.check(kept, NoPlace, {"found": thing}, kept.put, thing, sign)
            for thing in no_signs():
                for place in (0, m):
                    self.check(kept, NoLetter, {"found": thing}, kept.put, place, thing)

    def test_put_where_there_are_48_signs(self):
        kept = Kept("ab" * 24, "a")
        kept.change(3, "c")
        shown = told_by(kept)
        for place in (0, 1, 24, 47, 48):
            for sign in ("a", "."):
                self.refuses(TooLong, {}, kept.put, place, sign)
                try:
                    kept.put(place, sign)
                except TooLong as error:
                    self.assertEqual(repr(error.found), "49")
            for thing in ("", "ab", "A", None, True, ["a"]):
                self.refuses(NoLetter, {"found": thing}, kept.put, place, thing)
        for thing in (49, -1, None, True, "0"):
            self.refuses(NoPlace, {"found": thing}, kept.put, thing, "a")
            self.refuses(NoPlace, {"found": thing}, kept.put, thing, "")
        self.assertEqual(told_by(kept), shown)
        kept.drop(47)
        kept.put(0, "z")
        self.tells("zabac" + "ab" * 21 + "a", kept.side)

    def test_drop(self):
        for kept in self.some_kept():
            m = len(kept.side())
            for thing in odd_things() + [m, m + 1, -1, "0"]:
                if not within(thing, 0, m - 1):
                    self.check(kept, NoPlace, {"found": thing}, kept.drop, thing)

    def test_change(self):
        for kept in self.some_kept():
            m = len(kept.side())
            for thing in odd_things() + [m, m + 1, -1, "0"]:
                if not within(thing, 0, m - 1):
                    for sign in ("a", ".", "", None, thing):
                        self.check(kept, NoPlace, {"found": thing}, kept.change, thing, sign)
            if m > 0:
                for thing in no_signs():
                    for place in (0, m - 1):
                        self.check(kept, NoLetter, {"found": thing}, kept.change, place, thing)

    def test_retop(self):
        for kept in self.some_kept():
            for thing in odd_things() + ["a" * 49, "A"]:
                if not row_by_reading(thing):
                    self.check(kept, NoRow, {"found": thing}, kept.retop, thing)

    def test_refused_deeds_leave_what_was_made(self):
        kept = Kept("abcabcab", "cab")
        kept.put(4, ".")
        shown = all_told_by(kept)
        self.refuses(NoPlace, {"found": 10}, kept.put, 10, "a")
        self.refuses(NoLetter, {"found": "A"}, kept.put, 4, "A")
        self.refuses(NoPlace, {"found": 9}, kept.drop, 9)
        self.refuses(NoLetter, {"found": ""}, kept.change, 0, "")
        self.refuses(NoRow, {"found": None}, kept.retop, None)
        self.assertEqual(all_told_by(kept), shown)


class Twins(Case):
    def test_it_answers_just_as_the_first_one(self):
        chance = random.Random(161)
        for side, top in FEW_ROWS + two_rows(162, 5, 9):
            follower = Follower(self, Kept(side, top))
            for time in range(6):
                twin = follower.kept.twin()
                self.assertIs(type(twin), Kept)
                self.assertIsNot(twin, follower.kept)
                self.assertEqual(all_told_by(twin), all_told_by(follower.kept))
                self.assertEqual(all_told_by(twin.twin()), all_told_by(twin))
                follower.drawn_deed(chance, "put put drop change retop")

    def test_they_go_their_own_ways(self):
        chance = random.Random(163)
        for side, top in FEW_ROWS + two_rows(164, 5, 9):
            first = Follower(self, Kept(side, top))
            for time in range(4):
                first.drawn_deed(chance)
            second = self.follower_of_twin(first)
            third = self.follower_of_twin(second)
            for time in range(25):
                acting = chance.choice([first, second, third])
                others = [other for other in (first, second, third) if other is not acting]
                shown = [told_by(other.kept) for other in others]
                acting.drawn_deed(chance, "put put drop change retop")
                self.assertEqual([told_by(other.kept) for other in others], shown)
            for follower in (first, second, third):
                follower.look_at_lines()
                follower.look_at_stretches(spans(len(follower.side)))

    def follower_of_twin(self, follower):
        """Of a twin only what stands is known; what was made is told as of the first one."""
        twin = follower.kept.twin()
        other = Follower.__new__(Follower)
        other.case, other.kept, other.side, other.top = self, twin, follower.side, follower.top
        other.standing = list(follower.standing)
        other.known = {number: follower.known[number] for number in follower.standing}
        other.gone = []
        return other

    def test_made_of_a_twin(self):
        kept = Kept("abcabc", "ab")
        twin = kept.twin()
        self.tells(11, twin.made)
        kept.change(0, "z")
        other = kept.twin()
        self.assertEqual(other.made(), kept.made())
        self.assertLess(other.made(), 11)
        self.tells(11, twin.made)
        twin.drop(5)
        self.assertEqual(other.made(), kept.made())
        self.tells("zbcabc", other.side)
        self.tells("abcab", twin.side)

    def test_a_deed_that_a_twin_refuses(self):
        kept = Kept("ab", "ab")
        twin = kept.twin()
        shown = all_told_by(kept)
        self.refuses(NoPlace, {"found": 2}, twin.drop, 2)
        self.refuses(NoRow, {"found": "A"}, twin.retop, "A")
        self.assertEqual(all_told_by(kept), shown)
        self.assertEqual(all_told_by(twin), shown)


if __name__ == "__main__":
    unittest.main()
