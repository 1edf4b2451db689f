"""Points [120] to [122] and panethread/words.py."""

import random
import re
import unittest

from panethread.changes import is_changes
from panethread.errors import NoChanges, NoRow, NoWords
from panethread.heaps import heaps_of
from panethread.words import (changes_word, heaps_word, numbers_word, pairs_word, read_changes, read_heaps, read_number,
                              read_numbers, read_pairs, read_row, row_word, words_of)

from common import Case, no_rows, odd_things, row_by_reading, some_row, two_rows
from test_changes import LISTS, changes_by_reading, spoilt_changes

NUMBER = "(?:0|[1-9][0-9]{0,3})"
PAIR = NUMBER + ":" + NUMBER
PAIRS = PAIR + "(?:," + PAIR + ")*"
CHANGE = "(?:[=<>][a-z]|!(?:" + "|".join(letter + "[^\n -`{-~" + letter + "]" for letter in "abcdefghijklmnopqrstuvwxyz") + "))"
KINDS = {
    "row": re.compile("-|[a-z.]{1,48}"),
    "number": re.compile(NUMBER),
    "numbers": re.compile("-|" + NUMBER + "(?:," + NUMBER + ")*"),
    "pairs": re.compile("-|" + PAIRS),
    "heaps": re.compile("-|" + PAIRS + "(?:/" + PAIRS + ")*"),
    "changes": re.compile("-|" + CHANGE + "(?:," + CHANGE + "){0,47}"),
}
READ = {"row": read_row, "number": read_number, "numbers": read_numbers, "pairs": read_pairs, "heaps": read_heaps,
        "changes": read_changes}
WRITE = {"row": row_word, "number": lambda number: numbers_word([number]), "numbers": numbers_word, "pairs": pairs_word,
         "heaps": heaps_word, "changes": changes_word}
NUMBERS = [0, 1, 2, 9, 10, 11, 99, 100, 101, 999, 1000, 9998, 9999]


def word_by_reading(kind, thing):
    return type(thing) is str and KINDS[kind].fullmatch(thing) is not None


def drawn_numbers(chance, many):
    return [chance.choice([chance.choice(NUMBERS), chance.randint(0, 9999), chance.randint(0, 30)]) for time in range(many)]


def drawn_pairs(chance, many):
    return list(zip(drawn_numbers(chance, many), drawn_numbers(chance, many)))


def drawn_heaps(chance, many, most=5):
    return [drawn_pairs(chance, chance.randint(1, most)) for time in range(many)]


def all_things():
    """Things of each kind that are written."""
    chance = random.Random(230)
    counts = [0, 1, 2, 3, 7, 20, 60]
    rows = ["", ".", "a", "z", "a.b", "a" * 48, "." * 48] + [row for pair in two_rows(231, 10, 48, "abc.") for row in pair]
    return {
        "row": rows,
        "number": NUMBERS + [chance.randint(0, 9999) for time in range(40)],
        "numbers": [drawn_numbers(chance, many) for many in counts] + [[0], [0, 0, 0], [9999] * 800, NUMBERS],
        "pairs": [drawn_pairs(chance, many) for many in counts] + [[(0, 0)], [(0, 0)] * 5, [(9999, 9999)] * 400],
        "heaps": [drawn_heaps(chance, many) for many in counts] + [[[(0, 0)]], [[(0, 0)] * 3] * 2, [[(9999, 0)]] * 600],
        "changes": LISTS,
    }


THINGS = all_things()


def by_words(kind, thing):
    """The word of a thing, by the words of [120]."""
    if kind == "number":
        return str(thing)
    if kind == "row":
        return thing or "-"
    pairs = lambda some: ",".join(f"{i}:{j}" for i, j in some)
    if kind == "changes":
        marks = {"keep": "=", "change": "!", "out": "<", "in": ">"}
        return ",".join(marks[change[0]] + "".join(change[1:]) for change in thing) or "-"
    if kind == "heaps":
        return "/".join(pairs(heap) for heap in thing) or "-"
    return (pairs(thing) if kind == "pairs" else ",".join(map(str, thing))) or "-"


def spoilt_words(word):
    """The same word put otherwise at one place; a few of them are words still."""
    made = [word + sign for sign in " ,:/-0.a=!<>\n~"] + [sign + word for sign in " ,:/-0.a=!<>\n~+"]
    made += [word + word, word + "," + word, word + "/" + word, word + ":" + word, word + ",-", "-," + word, word + "/-",
             "-/" + word, word[1:], word[:-1], word.upper(), word + ",,0", [word], (word,), {word: word}, word + ",0"]
    for place in sorted({0, 1, len(word) // 2, len(word) - 1} & set(range(len(word)))):
        for sign in ",:/-0 9a.A=!<>\n":
            made.append(word[:place] + sign + word[place + 1:])
            made.append(word[:place] + sign + word[place:])
        made.append(word[:place] + word[place + 1:])
    return made


class Written(Case):
    def test_each_kind_by_its_words(self):
        for kind, things in THINGS.items():
            for thing in things:
                self.tells(by_words(kind, thing), WRITE[kind], thing)
                self.assertTrue(word_by_reading(kind, WRITE[kind](thing)))

    def test_some_plain_cases(self):
        self.tells("-", row_word, "")
        self.tells("a.b", row_word, "a.b")
        self.tells("-", numbers_word, [])
        self.tells("0", numbers_word, [0])
        self.tells("0,2,1,3", numbers_word, [0, 2, 1, 3])
        self.tells("-", pairs_word, [])
        self.tells("0:12", pairs_word, [(0, 12)])
        self.tells("0:12,3:4", pairs_word, [(0, 12), (3, 4)])
        self.tells("-", heaps_word, [])
        self.tells("0:1,1:0/1:1", heaps_word, [[(0, 1), (1, 0)], [(1, 1)]])
        self.tells("-", changes_word, [])
        self.tells("=a,!ab,<a,>b", changes_word, [("keep", "a"), ("change", "a", "b"), ("out", "a"), ("in", "b")])

    def test_great_lists(self):
        chance = random.Random(232)
        for numbers in ([9999] * 2400, [0] * 2400, drawn_numbers(chance, 2400)):
            self.tells(by_words("numbers", numbers), numbers_word, numbers)
            self.tells(numbers, read_numbers, numbers_word(numbers))
        for pairs in ([(9999, 9999)] * 600, [(0, 0)] * 600, drawn_pairs(chance, 600)):
            self.tells(by_words("pairs", pairs), pairs_word, pairs)
            self.tells(pairs, read_pairs, pairs_word(pairs))
            for heaps in ([pairs], [[pair] for pair in pairs], [pairs[:1], pairs[1:]]):
                self.tells(by_words("heaps", heaps), heaps_word, heaps)
                self.tells(heaps, read_heaps, heaps_word(heaps))
        heaps = heaps_of("a" * 24, "a" * 24)
        self.tells(heaps, read_heaps, heaps_word(heaps))

    def test_no_row(self):
        for thing in no_rows() + ["-", "a" * 49, "A", " "]:
            self.refuses(NoRow, {"found": thing}, row_word, thing)

    def test_no_changes(self):
        things = odd_things() + [thing for changes in LISTS[:6] for thing in spoilt_changes(changes)] + [[("keep", "a")] * 49]
        for thing in things:
            if changes_by_reading(thing):
                self.tells(by_words("changes", thing), changes_word, thing)
            else:
                self.refuses(NoChanges, {"found": thing}, changes_word, thing)


class Read(Case):
    def test_written_and_read_again(self):
        for kind, things in THINGS.items():
            for thing in things:
                word = WRITE[kind](thing)
                self.tells(thing, READ[kind], word)
                if kind not in ("row", "number"):
                    self.fresh(READ[kind], word)

    def test_read_and_written_again(self):
        right = 0
        for kind, things in THINGS.items():
            for thing in things[:12]:
                for word in spoilt_words(by_words(kind, thing)):
                    for other in READ:
                        if not word_by_reading(other, word):
                            self.refuses(NoWords, {"found": word}, READ[other], word)
                        else:
                            right += 1
                            self.tells(word, WRITE[other], READ[other](word))
        self.assertGreater(right, 500)

    def test_words_of_another_kind(self):
        for kind, things in THINGS.items():
            for thing in things:
                word = by_words(kind, thing)
                for other in READ:
                    if not word_by_reading(other, word):
                        self.refuses(NoWords, {"found": word}, READ[other], word)

    def test_numbers(self):
        for number in list(range(1200)) + list(range(9000, 10000)):
            self.assertEqual(repr(read_number(str(number))), repr(number))
            self.assertEqual(repr(read_numbers(str(number))), repr([number]))
        wrong = ["", "-", "00", "01", "007", "0000", "-1", "+1", "-0", "1.0", "1e3", "1_0", " 1", "1 ", "1\n", "\n1", "0x1", "a", "1a",
                 "10000", "99999", "1" * 40, "1" * 4000, "0" * 4000, "1,2", "1:2", ",", ":", "1,", ",1", "O", "l", "1/2", "1,01"]
        for word in wrong:
            self.refuses(NoWords, {"found": word}, read_number, word)
            pair = word + ":0"
            self.refuses(NoWords, {"found": pair}, read_pairs, pair)
            pair = "0:" + word
            if not word_by_reading("pairs", pair):
                self.refuses(NoWords, {"found": pair}, read_pairs, pair)
            if not word_by_reading("numbers", word):
                self.refuses(NoWords, {"found": word}, read_numbers, word)

    def test_each_sign(self):
        for sign in [chr(number) for number in range(32, 127)] + ["\n"]:
            for word in (sign, sign + "1", "1" + sign, "1" + sign + "1", "1:" + sign, sign + ":1", "1,1" + sign):
                for kind in READ:
                    if not word_by_reading(kind, word):
                        self.refuses(NoWords, {"found": word}, READ[kind], word)
                    else:
                        self.tells(word, WRITE[kind], READ[kind](word))

    def test_rows(self):
        for many in range(60):
            for sign in "az.":
                word = sign * many
                if 1 <= many <= 48:
                    self.tells(word, read_row, word)
                else:
                    self.refuses(NoWords, {"found": word}, read_row, word)
        self.tells("", read_row, "-")
        for word in ("--", "-a", "a-", "A", "a b", "a\n", "\n", " ", "0", ",", "a" * 4000):
            self.refuses(NoWords, {"found": word}, read_row, word)

    def test_heaps(self):
        self.tells([], read_heaps, "-")
        self.tells([[(1, 2), (1, 2)], [(1, 2)]], read_heaps, "1:2,1:2/1:2")
        for word in ("", "/", "0:0/", "/0:0", "0:0//0:0", "0:0/-", "-/0:0", "-/-", "0:0,", "0:0,-", "0:0:0", "0", "0/0", "0:0/0", ":", "0:",
                     ":0", "0:0,/0:0", "0:00", "00:0", "0:0/ 0:0", "0:0|0:0", "0:0/\n"):
            self.refuses(NoWords, {"found": word}, read_heaps, word)

    def test_changes(self):
        self.tells([], read_changes, "-")
        self.tells([("keep", "a"), ("change", "a", "b"), ("out", "z"), ("in", "b")], read_changes, "=a,!ab,<z,>b")
        self.tells([("in", "q")] * 48, read_changes, ",".join([">q"] * 48))
        for word in ("", "=", "!", "!a", "!aa", "!abc", "=ab", "<", ">", "<ab", ">ab", "=A", "!aB", "!Ab", "=.", "<.", "a", "keep", "=a,", ",=a",
                     "=a,-", "-,=a", "=a;=b", "=a =b", "=a,,=b", "=-", "==", "?a", "+a", "=a\n", "!a.", "=0", ",".join(["=a"] * 49),
                     "=" + "a" * 3999, "=a:b", "~a"):
            self.refuses(NoWords, {"found": word}, read_changes, word)

    def test_what_is_read_is_a_list_of_changes(self):
        signs = [chr(number) for number in range(32, 127)]
        for sign in signs:
            for letters in ("a", "ab", "aa", "", "A", "."):
                word = sign + letters
                if word_by_reading("changes", word):
                    self.assertTrue(is_changes(read_changes(word)))
                else:
                    self.refuses(NoWords, {"found": word}, read_changes, word)

    def test_words_of_4000_signs(self):
        for kind, unit, comma in (("numbers", "123", ","), ("pairs", "1:2", ","), ("heaps", "1:2", "/")):
            word = comma.join([unit] * 1000)
            self.assertEqual(len(word), 3999)
            self.assertEqual(len(READ[kind](word)), 1000)
            self.tells(word, WRITE[kind], READ[kind](word))
            for other in (word + comma, word + "0" * (1 if kind != "numbers" else 2), word[:2000] + "," + word[2000:]):
                if not word_by_reading(kind, other):
                    self.refuses(NoWords, {"found": other}, READ[kind], other)

    def test_any_thing(self):
        for thing in odd_things() + [["-"], ("-",), {"-": "-"}, 0, 5, None, [0], [(0, 0)], [[(0, 0)]], [("keep", "a")]]:
            for kind in READ:
                if not word_by_reading(kind, thing):
                    self.refuses(NoWords, {"found": thing}, READ[kind], thing)


class Lines(Case):
    def test_drawn_lines(self):
        chance = random.Random(233)
        signs = "".join(chr(number) for number in range(33, 127))
        for time in range(200):
            words = [some_row(chance, chance.randint(1, 6), signs) for word in range(chance.randint(1, 30))]
            self.tells(words, words_of, " ".join(words))
        self.tells(["see"], words_of, "see")
        self.tells(["rows", "-", "ab"], words_of, "rows - ab")
        self.fresh(words_of, "rows - ab")
        for sign in signs:
            self.tells([sign], words_of, sign)

    def test_blanks(self):
        for line in ("", " ", "  ", " a", "a ", "a  b", "a b ", " a b", "a   b", "a b  c"):
            self.refuses(NoWords, {"found": line}, words_of, line)

    def test_how_many_signs(self):
        for many in (1, 2, 399, 400):
            self.tells(["a" * many], words_of, "a" * many)
        self.tells(["a"] * 200, words_of, ("a " * 200)[:-1])
        self.tells(["a"] * 199 + ["aa"], words_of, "a " * 199 + "aa")
        self.assertEqual(len("a " * 199 + "aa"), 400)
        for line in ("a" * 401, "a " * 200 + "a", "a" * 4000, "a " * 1999 + "ab"):
            self.assertGreater(len(line), 400)
            self.refuses(NoWords, {"found": line}, words_of, line)

    def test_signs(self):
        for line in ("a\n", "\na", "a\nb", "\n", "a \n", "a\n b"):
            self.refuses(NoWords, {"found": line}, words_of, line)

    def test_any_thing(self):
        for thing in odd_things() + [["see"], ("see",), {"see": 1}]:
            if type(thing) is str and re.fullmatch("[!-~]+(?: [!-~]+)*", thing) and len(thing) <= 400:
                self.tells(thing.split(" "), words_of, thing)
            else:
                self.refuses(NoWords, {"found": thing}, words_of, thing)


class Rows(Case):
    def test_each_row_has_one_word(self):
        for row in THINGS["row"]:
            self.assertTrue(row_by_reading(row))
            self.tells(row, read_row, row_word(row))


if __name__ == "__main__":
    unittest.main()
