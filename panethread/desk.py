"""A desk: two plain rows that are changed and asked by lines of words."""

from panethread.answers import NONE, answer, is_question, numbers_asked
from panethread.errors import NoPlace, NoPlain, NoSpan, NoWindow, NoWords, TooLong
from panethread.kinds import is_letter
from panethread.rows import SIDE, TOP, need_plain, turned, with_change, with_drop, with_put
from panethread.words import read_number, read_row, words_of


def after_rows(rows, told):
    need_plain(told[0])
    need_plain(told[1])
    return (told[0], told[1])


def after_put(rows, told):
    return with_put(rows, told[0], told[1], told[2])


def after_drop(rows, told):
    return with_drop(rows, told[0], told[1])


def after_change(rows, told):
    return with_change(rows, told[0], told[1], told[2])


def after_turn(rows, told):
    return (turned(rows[0]), turned(rows[1]))


def after_swap(rows, told):
    return (rows[1], rows[0])


# By its first word the kinds of each deed's other words, and what tells the rows behind it.
DEEDS = {
    "rows": ("RR", after_rows),
    "put": ("PNL", after_put),
    "drop": ("PN", after_drop),
    "change": ("PNL", after_change),
    "turn": ("", after_turn),
    "swap": ("", after_swap),
}
UNDO = "undo"
REDO = "redo"


def kinds_behind(word):
    # None where no line begins with this word.
    if word in DEEDS:
        return DEEDS[word][0]
    if is_question(word):
        return "N" * numbers_asked(word)
    return "" if word in (UNDO, REDO) else None


def read_word(kind, word):
    if kind == "N":
        return read_number(word)
    if kind == "R":
        return read_row(word)
    if (kind == "P" and word in (SIDE, TOP)) or (kind == "L" and is_letter(word)):
        return word
    raise NoWords(word)


def read_line(line):
    words = words_of(line)
    kinds = kinds_behind(words[0])
    if kinds is None or len(kinds) != len(words) - 1:
        raise NoWords(line)
    try:
        told = [read_word(kind, word) for kind, word in zip(kinds, words[1:])]
    except NoWords:
        # The whole line is refused, not the one word.
        raise NoWords(line) from None
    return (words[0], told)


class Desk:
    def __init__(self):
        self.held_rows = ("", "")
        # The rows ahead of each deed that stands, and those behind each one that was taken back.
        self.held_past = []
        self.held_future = []

    def answered(self, word, numbers):
        return answer(word, self.held_rows[0], self.held_rows[1], numbers)

    def act(self, word, told):
        deed = DEEDS[word][1]
        rows = deed(self.held_rows, told)
        self.held_past.append(self.held_rows)
        self.held_future = []
        self.held_rows = rows
        return self.answered("see", [])

    def stepped(self, source, target):
        if len(source) == 0:
            return NONE
        target.append(self.held_rows)
        self.held_rows = source.pop()
        return self.answered("see", [])

    def ask(self, line):
        asked = read_line(line)
        if asked[0] == UNDO:
            return self.stepped(self.held_past, self.held_future)
        if asked[0] == REDO:
            return self.stepped(self.held_future, self.held_past)
        if asked[0] in DEEDS:
            return self.act(asked[0], asked[1])
        return self.answered(asked[0], asked[1])

    def answer_or_refusal(self, line):
        try:
            return self.ask(line)
        except NoWords:
            return "no words"
        except NoPlain:
            return "no row"
        except NoPlace:
            return "no place"
        except NoSpan:
            return "no stretch"
        except NoWindow:
            return "no window"
        except TooLong:
            return "too long"

    def run(self, lines):
        return [self.answer_or_refusal(line) for line in lines]
