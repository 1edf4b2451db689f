"""Points [80] to [84] and panethread/changes.py."""

import itertools
import random
import unittest

from panethread.changes import after, back, done, is_changes, paid
from panethread.errors import NoChanges, NoPlain, TooLong, Unlike

from common import Case, odd_things, plain_by_reading

LETTERS = "abcdefghijklmnopqrstuvwxyz"


def letter_by_reading(thing):
    return type(thing) is str and len(thing) == 1 and thing in LETTERS


def change_by_reading(thing):
    if type(thing) is not tuple or len(thing) == 0 or not all(type(part) is str for part in thing):
        return False
    if not all(letter_by_reading(part) for part in thing[1:]):
        return False
    kinds = {"keep": 2, "out": 2, "in": 2, "change": 3}
    return thing[0] in kinds and len(thing) == kinds[thing[0]] and len(set(thing[1:])) == len(thing) - 1


def changes_by_reading(thing):
    return type(thing) is list and len(thing) <= 48 and all(change_by_reading(change) for change in thing)


def old_by_reading(changes):
    return "".join(change[1] for change in changes if change[0] in ("keep", "change", "out"))


def new_by_reading(changes):
    return "".join({"keep": change[1], "change": change[-1], "in": change[1]}[change[0]]
                   for change in changes if change[0] != "out")


def paid_by_reading(changes):
    return sum(0 if change[0] == "keep" else 1 for change in changes)


def drawn_changes(chance, many, letters="abc", kinds=("keep", "change", "out", "in")):
    made = []
    while len(made) < many:
        kind, one, other = chance.choice(kinds), chance.choice(letters), chance.choice(letters)
        if kind != "change":
            made.append((kind, one))
        elif one != other:
            made.append((kind, one, other))
    return made


def drawn_from(chance, row, letters="abc", loose=0.3):
    """Drawn changes whose old row is this one."""
    made = []
    for letter in row:
        while chance.random() < loose:
            made.append(("in", chance.choice(letters)))
        other = chance.choice(letters)
        choices = [("keep", letter), ("out", letter)] + ([("change", letter, other)] if other != letter else [])
        made.append(chance.choice(choices))
    while chance.random() < loose:
        made.append(("in", chance.choice(letters)))
    return made


def joined_by_words(one, other):
    """What [83] tells, letter by letter of the row between; however long it is."""
    makers = [place for place, change in enumerate(one) if change[0] != "out"]
    takers = [place for place, change in enumerate(other) if change[0] != "in"]
    told = []
    from_one, from_other = 0, 0
    for maker, taker in zip(makers, takers):
        told += [change for change in one[from_one:maker] if change[0] == "out"]
        told += [change for change in other[from_other:taker] if change[0] == "in"]
        from_one, from_other = maker + 1, taker + 1
        has_old, has_new = one[maker][0] != "in", other[taker][0] != "out"
        old, new = one[maker][1], other[taker][-1]
        if has_old and has_new and old == new:
            told.append(("keep", old))
        elif has_old and has_new:
            told.append(("change", old, new))
        elif has_old:
            told.append(("out", old))
        elif has_new:
            told.append(("in", new))
    told += [change for change in one[from_one:] if change[0] == "out"]
    told += [change for change in other[from_other:] if change[0] == "in"]
    return told


def drawn_lists(seed):
    chance = random.Random(seed)
    made = [[], [("keep", "a")], [("change", "a", "b")], [("out", "a")], [("in", "a")], [("keep", "z")] * 48,
            [("change", "z", "a")] * 48, [("out", "m")] * 48, [("in", "m")] * 48, [("in", "a"), ("out", "a")]]
    made += [drawn_changes(chance, many, letters) for many in (1, 2, 3, 4, 5, 6, 9, 14, 24, 25, 40, 47, 48)
             for letters in ("ab", "abc", LETTERS)]
    return made


LISTS = drawn_lists(130)


def spoilt_changes(changes):
    """The same put otherwise at one place; a few of them are lists of changes still."""
    made = [tuple(changes), [changes], (changes,), {0: changes}, changes + [None], changes + [()], changes + [[]],
            changes + [("keep", "a")], [None] + changes, changes + [""], changes + changes, changes + ["keep"]]
    for place in sorted({0, len(changes) // 2, len(changes) - 1} & set(range(len(changes)))):
        change = changes[place]
        letter = change[1]
        others = [list(change), change + ("a",), change + ("",), change[:-1], change[:1], change[1:], (), None, True, 0, "",
                  (None,) + change[1:], ("", letter), ("Keep", letter), ("keep ", letter), ("drop", letter),
                  ("change", letter), ("change", letter, letter), ("change", letter, "A"), ("change", "A", letter),
                  ("change", letter, ""), ("change", letter, letter + letter), ("change", letter, None),
                  ("change", letter, "."), ("change", ".", letter), ("keep", "."), ("keep", ""), ("keep", "ab"),
                  ("keep", "A"), ("keep", 0), ("keep", None), ("keep", [letter]), ("keep", "a\n"), ("keep", "\n"),
                  ("out", "."), ("out", ""), ("out", "Z"), ("out", True), ("in", "."), ("in", ""), ("in", "-"), ("in", 1),
                  ("keep", letter, letter), ("keep", "a", "b"), ("out", "a", "b"), ("in", "a", "b"), ("keep", "b"),
                  ("in", "b"), ("out", "b"), ("change", "a", "b"), ("change", "a", "b", "c"), {"keep": letter},
                  (["keep"], letter), (("keep",), letter), (True, letter), (1, letter), "keep", ("keep" + letter,)]
        made += [changes[:place] + [other] + changes[place + 1:] for other in others]
        made += [changes[:place] + changes[place + 1:], changes[:place] + [change] + changes[place:]]
    return made


class IsChanges(Case):
    def test_drawn_lists(self):
        for changes in LISTS:
            self.truth(True, is_changes, changes)
            self.truth(False, is_changes, tuple(changes))

    def test_how_many(self):
        for many in range(60):
            for change in (("keep", "a"), ("change", "a", "z"), ("out", "q"), ("in", "z")):
                self.truth(many <= 48, is_changes, [change] * many)

    def test_each_letter(self):
        signs = [chr(number) for number in range(32, 127)] + ["\n", "", "aa"]
        for one in signs:
            for kind in ("keep", "out", "in"):
                self.truth(letter_by_reading(one), is_changes, [(kind, one)])
            for other in ("a", "z", "A", one):
                right = letter_by_reading(one) and letter_by_reading(other) and one != other
                self.truth(right, is_changes, [("change", one, other)])
                self.truth(right, is_changes, [("change", other, one)])

    def test_spoilt_at_one_place(self):
        right = 0
        for changes in LISTS:
            for thing in spoilt_changes(changes):
                wanted = changes_by_reading(thing)
                right += wanted
                self.truth(wanted, is_changes, thing)
        self.assertGreater(right, 100)

    def test_any_thing(self):
        for thing in odd_things():
            self.truth(changes_by_reading(thing), is_changes, thing)
            self.truth(changes_by_reading([thing]), is_changes, [thing])
            self.truth(False, is_changes, [("keep", thing)] if not letter_by_reading(thing) else None)
            self.truth(False, is_changes, [(thing, "a")])
            self.truth(False, is_changes, [("change", thing, thing)])


class PaidDoneBack(Case):
    def test_paid(self):
        for changes in LISTS:
            self.tells(paid_by_reading(changes), paid, changes)
        self.tells(0, paid, [])
        self.tells(0, paid, [("keep", "a")] * 48)
        self.tells(48, paid, [("in", "a")] * 48)
        self.tells(3, paid, [("keep", "a"), ("change", "a", "b"), ("out", "a"), ("in", "a")])

    def test_done(self):
        tried = 0
        for changes in LISTS + [drawn_changes(random.Random(many), 30, "ab", ("keep", "out", "in")) for many in range(9)]:
            row = old_by_reading(changes)
            if plain_by_reading(row):
                tried += 1
                self.tells(new_by_reading(changes), done, row, changes)
            else:
                self.refuses(NoPlain, {"found": row}, done, row, changes)
        self.assertGreater(tried, 30)
        self.tells("", done, "", [])
        self.tells("a" * 48, done, "", [("in", "a")] * 48)
        self.tells("", done, "ab", [("out", "a"), ("out", "b")])
        self.tells("cab", done, "aab", [("change", "a", "c"), ("keep", "a"), ("keep", "b")])

    def test_done_with_another_row(self):
        for changes in LISTS:
            row = old_by_reading(changes)
            others = ["", "a", "zz", row + "a", row[1:], row[:-1], row[::-1], new_by_reading(changes), "b" + row,
                      row[:1] + row]
            for other in others:
                if not plain_by_reading(other):
                    self.refuses(NoPlain, {"found": other}, done, other, changes)
                elif other != row:
                    self.refuses(NoChanges, {"found": changes}, done, other, changes)

    def test_back(self):
        kinds = {"keep": "keep", "change": "change", "out": "in", "in": "out"}
        for changes in LISTS:
            wanted = [(kinds[change[0]],) + change[:0:-1] for change in changes]
            self.tells(wanted, back, changes)
            self.fresh(back, changes)
            told = back(changes)
            self.assertEqual(old_by_reading(told), new_by_reading(changes))
            self.assertEqual(new_by_reading(told), old_by_reading(changes))
            self.assertEqual(paid(told), paid(changes))
            self.tells(changes, back, told)
        self.tells([("keep", "a"), ("change", "c", "b"), ("in", "d"), ("out", "e")], back,
                   [("keep", "a"), ("change", "b", "c"), ("out", "d"), ("in", "e")])

    def test_refused(self):
        for thing in self.wrong():
            self.refuses(NoChanges, {"found": thing}, paid, thing)
            self.refuses(NoChanges, {"found": thing}, back, thing)
            for row in ("", "a", "z" * 24):
                self.refuses(NoChanges, {"found": thing}, done, row, thing)

    def wrong(self):
        things = odd_things() + [thing for changes in LISTS[:24] for thing in spoilt_changes(changes)]
        return [thing for thing in things if not changes_by_reading(thing)]

    def test_done_refuses_the_row_first(self):
        for row in odd_things() + ["a.", "a" * 25]:
            if not plain_by_reading(row):
                for changes in ([], [("keep", "a")], None, [("keep", ".")], [("keep", "a")] * 25):
                    self.refuses(NoPlain, {"found": row}, done, row, changes)


def fitting(seed, times, most, letters="ab"):
    """Two lists each, the new row of the one being the old row of the other."""
    chance = random.Random(seed)
    made = []
    while len(made) < times:
        one = drawn_changes(chance, chance.randint(0, most), letters)
        other = drawn_from(chance, new_by_reading(one), letters)
        if len(other) <= 48:
            made.append((one, other))
    return made


PAIRS = fitting(131, 300, 9) + fitting(132, 60, 25, "abcd") + [([], []), ([("out", "a")], []), ([], [("in", "a")]),
                                                                 ([("in", "a")], [("out", "a")])]


class After(Case):
    def test_by_the_words(self):
        longest = 0
        for one, other in PAIRS:
            wanted = joined_by_words(one, other)
            longest = max(longest, len(wanted))
            if len(wanted) > 48:
                continue
            self.tells(wanted, after, one, other)
            self.truth(True, is_changes, wanted)
            self.assertEqual(old_by_reading(wanted), old_by_reading(one))
            self.assertEqual(new_by_reading(wanted), new_by_reading(other))
            self.assertLessEqual(paid(wanted), paid(one) + paid(other))
        self.assertGreater(longest, 30)

    def test_told_anew(self):
        for one, other in PAIRS[:80]:
            self.fresh(after, one, other)

    def test_each_maker_with_each_taker(self):
        letters = "abc"
        makers = [("keep", "b"), ("change", "a", "b"), ("change", "c", "b"), ("in", "b")]
        takers = [("keep", "b"), ("change", "b", "a"), ("change", "b", "c"), ("out", "b")]
        wanted = {("b", "b"): [("keep", "b")], (None, None): []}
        for x in letters:
            wanted[x, None], wanted[None, x] = [("out", x)], [("in", x)]
            for y in letters:
                wanted[x, y] = [("keep", x)] if x == y else [("change", x, y)]
        for maker, taker in itertools.product(makers, takers):
            old = None if maker[0] == "in" else maker[1]
            new = None if taker[0] == "out" else taker[-1]
            self.tells(wanted[old, new], after, [maker], [taker])

    def test_the_order_of_what_is_loose(self):
        one = [("out", "p"), ("keep", "a"), ("out", "q"), ("out", "r"), ("in", "b"), ("out", "s")]
        other = [("in", "w"), ("in", "x"), ("out", "a"), ("in", "y"), ("keep", "b"), ("in", "z")]
        self.tells([("out", "p"), ("in", "w"), ("in", "x"), ("out", "a"), ("out", "q"), ("out", "r"), ("in", "y"), ("in", "b"),
                    ("out", "s"), ("in", "z")], after, one, other)
        self.tells([("out", "a"), ("in", "b")], after, [("out", "a")], [("in", "b")])

    def test_there_and_back(self):
        for changes in LISTS:
            told = joined_by_words(changes, back(changes))
            if len(told) <= 48:
                self.tells(told, after, changes, back(changes))
                self.assertEqual(old_by_reading(told), new_by_reading(told))

    def test_three_in_both_brackets(self):
        chance = random.Random(133)
        tried = 0
        for one, other in PAIRS:
            third = drawn_from(chance, new_by_reading(other), "ab")
            if len(third) > 48:
                continue
            try:
                first = after(after(one, other), third)
                last = after(one, after(other, third))
            except TooLong:
                continue
            tried += 1
            self.assertEqual(first, last)
        self.assertGreater(tried, 200)


class AfterRefuses(Case):
    def test_no_changes_of_the_first_then_of_the_second(self):
        things = odd_things() + [thing for changes in LISTS[:16] for thing in spoilt_changes(changes)]
        for thing in things:
            if changes_by_reading(thing):
                continue
            for other in ([], [("keep", "a")], None, [("keep", "A")], thing):
                self.refuses(NoChanges, {"found": thing}, after, thing, other)
            for one in ([], [("in", "a")], [("keep", "a")] * 48):
                self.refuses(NoChanges, {"found": thing}, after, one, thing)

    def caught(self, error, one, other):
        self.refuses(error, {}, after, one, other)
        try:
            after(one, other)
        except error as fault:
            return fault

    def test_unlike(self):
        chance = random.Random(134)
        tried = [([], [("keep", "a")]), ([("in", "a")], []), ([("change", "a", "b")], [("keep", "a")]),
                 ([("out", "a")] * 48, [("out", "a")] * 48), ([("in", "a")] * 48, [("in", "a")] * 48)]
        tried += [(chance.choice(LISTS), chance.choice(LISTS)) for time in range(150)]
        unlike = 0
        for one, other in tried:
            new, old = new_by_reading(one), old_by_reading(other)
            if new != old:
                unlike += 1
                fault = self.caught(Unlike, one, other)
                self.assertEqual(repr((fault.one, fault.other)), repr((new, old)))
        self.assertGreater(unlike, 100)

    def test_too_long(self):
        tried = [([("out", "a")] * 48, [("in", "b")] * many) for many in (1, 2, 48)]
        tried += [([("out", "a")] * many, [("in", "b")] * 48) for many in (1, 2, 47)]
        tried += [([("out", "a")] * 24 + [("keep", "a")], [("in", "b")] * 24 + [("keep", "a")])]
        for one, other in tried + fitting(135, 40, 48):
            wanted = joined_by_words(one, other)
            if len(wanted) > 48:
                fault = self.caught(TooLong, one, other)
                self.assertEqual(repr(fault.found), repr(len(wanted)))
            else:
                self.tells(wanted, after, one, other)

    def test_just_48(self):
        one = [("out", "a")] * 24
        self.tells(one + [("in", "b")] * 24, after, one, [("in", "b")] * 24)
        self.tells(one + [("in", "b")] * 23, after, one, [("in", "b")] * 23)
        self.assertEqual(self.caught(TooLong, one, [("in", "b")] * 25).found, 49)
        # What both list of a letter that comes and goes again is nothing, and counts for nothing.
        self.tells([], after, [("in", "a")] * 48, [("out", "a")] * 48)


if __name__ == "__main__":
    unittest.main()
