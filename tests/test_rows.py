"""Points [2], [3], [4], [10] to [13] and panethread/rows.py."""

import string
import unittest

from panethread.errors import NoNames, NoPlain, NoRow, NoSpan
from panethread.rows import is_plain, is_row, parted, places_of, renamed, stretch_of, turned, unparted

from common import Case, no_rows, odd_things, plain_by_reading, row_by_reading, two_rows, within

SIGNS = [chr(number) for number in range(32, 127)] + ["\n"]
ROWS = ["", ".", "a", "z", "ab", "ba", ".a", "a.", "a.b.a", "aab..b", "abcdefghijklmnopqrstuvwxyz", "a" * 24, "b" * 25,
        "." * 48, "c" * 48, "ab." * 16] + [row for pair in two_rows(10, 30, 48, "abcxyz.") for row in pair]
PLAIN = ["", "a", "z", "ab", "abc", "zzz", "abcdefghijklmnopqrstuvwx", "y" * 24]


class Kinds(Case):
    def test_any_thing(self):
        for thing in odd_things():
            self.truth(row_by_reading(thing), is_row, thing)
            self.truth(plain_by_reading(thing), is_plain, thing)

    def test_how_many_signs(self):
        for many in range(61):
            self.truth(many <= 48, is_row, "a" * many)
            self.truth(many <= 48, is_row, "." * many)
            self.truth(many <= 24, is_plain, "z" * many)
            self.truth(many == 0, is_plain, "." * many)

    def test_each_sign_alone_and_at_each_end(self):
        for sign in SIGNS:
            letter = sign in string.ascii_lowercase
            for row in (sign, "ab" + sign, sign + "ab", "a" + sign + "b", "." + sign):
                self.truth(letter or sign == ".", is_row, row)
            for row in (sign, "ab" + sign, sign + "ab", "a" + sign + "b", "a" * 23 + sign):
                self.truth(letter, is_plain, row)

    def test_a_point_among_letters(self):
        for row in (".", "a.", ".a", "a.b", "a" * 23 + "."):
            self.truth(True, is_row, row)
            self.truth(False, is_plain, row)

    def test_things_that_hold_rows(self):
        for thing in (["a"], ("a",), {"a": "a"}, [], (), {}, ["a", "b"], 0, 1, True, False, None):
            self.truth(False, is_row, thing)
            self.truth(False, is_plain, thing)


class Parted(Case):
    def test_parted(self):
        self.tells("", parted, "")
        self.tells(".a.b", parted, "ab")
        self.tells(".a" * 24, parted, "a" * 24)
        for row in PLAIN:
            self.tells("".join("." + letter for letter in row), parted, row)

    def test_parted_refuses_what_is_not_plain(self):
        for thing in odd_things() + ["a.", ".a", "a" * 25, "aB", "a\n", "a b"]:
            if not plain_by_reading(thing):
                self.refuses(NoPlain, {"found": thing}, parted, thing)

    def test_back_and_forth(self):
        for row in PLAIN:
            self.tells(row, unparted, parted(row))
            self.tells(parted(row), parted, unparted(parted(row)))

    def test_unparted_refuses_all_else(self):
        right = {"".join("." + letter for letter in row) for row in PLAIN}
        for thing in odd_things():
            if thing == "" or thing == ".a.b":
                continue
            self.refuses(NoRow, {"found": thing}, unparted, thing)
        for row in sorted(right):
            for spoilt in self.spoilt(row):
                self.refuses(NoRow, {"found": spoilt}, unparted, spoilt)
        for row in ("a", "ab", "a.", "a.b.", "a.b", "..", "...a", ".a.", ".ab", "..a", ".a..", ".A", ".a.\n", "." * 48,
                    "a" * 48, ".a" * 24 + ".", ".a" * 24 + ".a", "x" + ".a" * 23 + ".", ".a b"):
            self.refuses(NoRow, {"found": row}, unparted, row)

    def spoilt(self, row):
        """The same with a sign taken out, put in or exchanged: none of these is a parted row."""
        made = []
        for place in range(len(row)):
            made.append(row[:place] + row[place + 1:])
            made.append(row[:place] + ("q" if row[place] == "." else ".") + row[place + 1:])
            if row[place] != ".":
                made.append(row[:place] + "Q" + row[place + 1:])
        for place in range(len(row) + 1):
            for sign in ".qQ":
                made.append(row[:place] + sign + row[place:])
        return made


class Turned(Case):
    def test_turned(self):
        self.tells("", turned, "")
        self.tells("cb.a", turned, "a.bc")
        for row in ROWS:
            self.tells("".join(row[len(row) - 1 - place] for place in range(len(row))), turned, row)

    def test_refused(self):
        for thing in no_rows():
            self.refuses(NoRow, {"found": thing}, turned, thing)


def names_by_reading(thing):
    if type(thing) is not dict:
        return False
    letters = list(string.ascii_lowercase)
    if any(key not in letters for key in thing) or any(value not in letters for value in thing.values()):
        return False
    return all(list(thing.values()).count(key) == 1 for key in thing) and len(set(thing.values())) == len(thing)


AROUND = {letter: string.ascii_lowercase[(place + 1) % 26] for place, letter in enumerate(string.ascii_lowercase)}
NAMES = [{}, {"a": "a"}, {"a": "b", "b": "a"}, {"a": "b", "b": "c", "c": "a"}, {"c": "c", "a": "z", "z": "a"},
         {"q": "r", "r": "q"}, {letter: letter for letter in string.ascii_lowercase}, AROUND,
         {letter: string.ascii_lowercase[25 - place] for place, letter in enumerate(string.ascii_lowercase)}]
NO_NAMES = [
    {"a": "b"}, {"a": "b", "b": "b"}, {"a": "a", "b": "a"}, {"a": "b", "b": "c"}, {"a": "b", "c": "a"},
    {"a": "b", "b": "c", "c": "b"}, {"A": "A"}, {"a": "A", "A": "a"}, {"a": "A"}, {"ab": "ab"}, {"a": "ab", "ab": "a"},
    {".": "."}, {"a": ".", ".": "a"}, {"": ""}, {"a": "", "": "a"}, {0: 0}, {0: "a", "a": 0}, {"a": 0}, {"a": True},
    {True: True}, {None: None}, {"a": None}, {("a",): ("a",)}, {"a": ["a"]}, {"a": []}, {"a": {"a": "a"}}, {"a": ("a",)},
    {"a": "b", "b": ["a"]}, {"a": "b", "b": "a", "c": "a"}, {"a": "b", "b": "a", "c": "d"}, {"\n": "\n"}, {" ": " "},
    {"a": "a", "b": 1, "c": None}, {"a": "a", 1: "b", None: "c"}, [], ["a"], [("a", "b"), ("b", "a")], (), "ab", "", None,
    0, 1, True, False, [{}], ({},)]


class Renamed(Case):
    def test_named_anew(self):
        self.tells("ba.bc", renamed, "ab.ac", {"a": "b", "b": "a"})
        self.tells("bca.d", renamed, "abc.d", {"a": "b", "b": "c", "c": "a"})
        self.tells("abc.d", renamed, "abc.d", {})
        for row in ROWS:
            for names in NAMES:
                wanted = ""
                for sign in row:
                    wanted += names[sign] if sign in names else sign
                self.tells(wanted, renamed, row, names)

    def test_the_names_stay(self):
        names = {"b": "a", "a": "b"}
        renamed("abab", names)
        self.assertEqual(list(names.items()), [("b", "a"), ("a", "b")])

    def test_no_row_goes_ahead(self):
        for thing in no_rows():
            for names in ({}, {"a": "b"}, None, [], {"a": []}, thing):
                self.refuses(NoRow, {"found": thing}, renamed, thing, names)

    def test_what_are_no_names(self):
        for names in NO_NAMES + odd_things():
            for row in ("", "a", "abc.", "q", "." * 48):
                if not names_by_reading(names):
                    self.refuses(NoNames, {"found": names}, renamed, row, names)
                else:
                    renamed(row, names)

    def test_names_spoilt_in_one_place(self):
        for good in NAMES:
            for key in good:
                for value in ("A", ".", "", "ab", 0, True, None, [], ["a"], {}, ("a",), "\n"):
                    self.refuses(NoNames, {}, renamed, "abc", {**good, key: value})
            for key in ("A", ".", "", "ab", 0, True, None, ("a",), "\n"):
                self.refuses(NoNames, {}, renamed, "abc", {**good, key: "a"})
                self.refuses(NoNames, {}, renamed, "abc", {**good, key: key})

    def test_the_reading_of_names_itself(self):
        self.assertTrue(all(names_by_reading(names) for names in NAMES))
        self.assertFalse(any(names_by_reading(names) for names in NO_NAMES))


class Places(Case):
    def test_places(self):
        for row in ROWS:
            told = places_of(row)
            self.assertIs(type(told), dict)
            self.assertEqual(sorted(told), sorted(set(row)))
            for sign in told:
                self.tells([place for place in range(len(row)) if row[place] == sign], told.get, sign)

    def test_told_anew(self):
        for row in ROWS:
            self.fresh(places_of, row)

    def test_refused(self):
        for thing in no_rows():
            self.refuses(NoRow, {"found": thing}, places_of, thing)


class Stretches(Case):
    def test_all_stretches(self):
        for row in ("", "a", "ab.c", "abcde.", "a" * 24, "ab." * 16):
            for begin in range(len(row) + 1):
                for end in range(begin, len(row) + 1):
                    self.tells("".join(row[place] for place in range(begin, end)), stretch_of, row, begin, end)

    def test_all_that_is_none(self):
        for row in ("", "a", "ab.c", "." * 48):
            for begin in range(-3, len(row) + 4):
                for end in range(-3, len(row) + 4):
                    if not 0 <= begin <= end <= len(row):
                        self.refuses(NoSpan, {"begin": begin, "end": end}, stretch_of, row, begin, end)

    def test_other_kinds(self):
        for thing in odd_things() + ["2", "-1", [2], (2,), 5]:
            if not within(thing, 0, 4):
                for good in (0, 2, 4):
                    self.refuses(NoSpan, {"begin": thing, "end": good}, stretch_of, "ab.c", thing, good)
                    self.refuses(NoSpan, {"begin": good, "end": thing}, stretch_of, "ab.c", good, thing)
                self.refuses(NoSpan, {"begin": thing, "end": thing}, stretch_of, "ab.c", thing, thing)

    def test_no_row_goes_ahead(self):
        for thing in no_rows():
            for begin, end in ((0, 0), (1, 0), (None, True), (thing, thing)):
                self.refuses(NoRow, {"found": thing}, stretch_of, thing, begin, end)


if __name__ == "__main__":
    unittest.main()
