"""Points [123] to [126], panethread/desk.py and panethread/answers.py."""

import random
import re
import unittest

from panethread.apart import apart_near
from panethread.asks import asks_of
from panethread.boards import Board
from panethread.costs import Costs
from panethread.desk import Desk
from panethread.errors import NoPlace, NoPlain, NoSpan, NoWindow, NoWords, PaneError, TooLong
from panethread.heaps import heaps_of
from panethread.near import near
from panethread.rings import Ring
from panethread.twice import twice, twice_lengths
from panethread.windows import shows_window
from panethread.words import read_changes, read_heaps, read_numbers, read_pairs

from common import Case, odd_things, plain_by_reading, some_row
from test_changes import new_by_reading, old_by_reading, paid_by_reading
from test_twice import said_by_reading
from test_words import NUMBER, by_words

KINDS = {"N": NUMBER, "R": "(?:-|[a-z.]{1,48})", "P": "(?:side|top)", "L": "[a-z]"}
DEEDS = {"rows": "RR", "put": "PNL", "drop": "PN", "change": "PNL", "turn": "", "swap": "", "undo": "", "redo": ""}
QUESTIONS = {"see": "", "lines": "", "window": "NNNN", "stretch": "NN", "beginning": "NN", "ending": "NN", "across": "NN",
             "shortest": "N", "tightest": "N", "thread": "NNNN", "paper": "NNNN", "cost": "NN", "best": "", "changes": "",
             "near": "N", "apart": "N", "ring": "", "openings": "", "twice": ""}
LINES = {word: re.compile(" ".join([word] + [f"({KINDS[kind]})" for kind in kinds]))
         for word, kinds in {**DEEDS, **QUESTIONS}.items()}
REFUSALS = {NoWords: "no words", NoPlain: "no row", NoPlace: "no place", NoSpan: "no stretch", NoWindow: "no window",
            TooLong: "too long"}


def line_by_reading(thing):
    """A line's first word and its others as they are read, or None where it is refused as a whole."""
    if type(thing) is not str or len(thing) > 400:
        return None
    for word, form in LINES.items():
        found = form.fullmatch(thing)
        if found:
            kinds = {**DEEDS, **QUESTIONS}[word]
            return word, [int(part) if kind == "N" else "" if (kind, part) == ("R", "-") else part
                          for kind, part in zip(kinds, found.groups())]
    return None


def fields_of(error):
    return {name: getattr(error, name) for name in ("found", "begin", "end") if hasattr(error, name)}


def caught(call, *handed):
    """What a call tells, or the refusal."""
    try:
        return call(*handed)
    except PaneError as error:
        return error


class Model:
    """A desk by the words of [123] and [124]."""

    def __init__(self):
        self.rows = ("", "")
        self.deeds, self.next = [("", "")], 0

    def done(self, rows):
        self.deeds = self.deeds[:self.next + 1] + [rows]
        self.next += 1
        self.rows = rows

    def edited(self, word, part, place, letter=""):
        which = ("side", "top").index(part)
        row = self.rows[which]
        if place > len(row) - (word != "put"):
            raise NoPlace(place)
        if word == "put" and len(row) == 24:
            raise TooLong(25)
        row = row[:place] + letter + row[place + (word != "put"):]
        self.done((row, self.rows[1]) if which == 0 else (self.rows[0], row))

    def deed(self, word, told):
        if word == "rows":
            for row in told:
                if not plain_by_reading(row):
                    raise NoPlain(row)
            self.done(tuple(told))
        elif word in ("put", "drop", "change"):
            self.edited(word, *told)
        elif word == "turn":
            self.done(tuple(row[::-1] for row in self.rows))
        elif word == "swap":
            self.done(self.rows[::-1])
        else:
            step = -1 if word == "undo" else 1
            if not 0 <= self.next + step < len(self.deeds):
                return "none"
            self.next += step
            self.rows = self.deeds[self.next]
        return " ".join(row or "-" for row in self.rows)


def spaced(numbers):
    return " ".join(map(str, numbers))


def by_other_files(side, top, word, numbers):
    """What the other files tell to a question, where that is promised to the letter."""
    asks = asks_of(side, top)
    if word in ("window", "stretch", "beginning", "ending", "across"):
        return str(getattr(asks, word)(*numbers))
    if word == "shortest":
        found = asks.shortest(*numbers)
        return "none" if found is None else spaced(found)
    if word == "near":
        return ",".join(":".join(map(str, priced)) for priced in near(side, top, *numbers)) or "-"
    calls = {"see": lambda: " ".join(row or "-" for row in (side, top)),
             "lines": lambda: by_words("numbers", Board(side, top).lines()),
             "tightest": lambda: by_words("pairs", asks.tightest(*numbers)),
             "cost": lambda: str(Costs(side, top).of(*numbers)),
             "best": lambda: spaced(Costs(side, top).best()),
             "apart": lambda: str(apart_near(side, top, *numbers)[0]),
             "ring": lambda: spaced(Ring(side, top).best()),
             "openings": lambda: by_words("numbers", Ring(side, top).lengths())}
    return calls[word]()


class DeskCase(Case):
    def check_answer(self, side, top, word, numbers, text):
        """An answer to a question, by the other files; where several are right, whether it is one of them."""
        self.assertIs(type(text), str)
        if word == "thread":
            thread = read_pairs(text)
            self.check_paper(side, top, numbers, thread)
        elif word == "paper":
            pairs, heaps = text.split(" ")
            first, last, begin, end = numbers
            self.check_paper(side, top, numbers, read_pairs(pairs))
            moved = [[(i + first, j + begin) for i, j in heap] for heap in heaps_of(side[first:last], top[begin:end])]
            self.assertEqual(read_heaps(heaps), moved)
            self.assertEqual(text, by_words("pairs", read_pairs(pairs)) + " " + by_words("heaps", moved))
        elif word == "changes":
            changes = read_changes(text)
            self.assertEqual((old_by_reading(changes), new_by_reading(changes)), (side, top))
            self.assertEqual(paid_by_reading(changes), Costs(side, top).of(0, len(top)))
        elif word == "twice":
            cut, firsts, seconds = text.split(" ")
            self.assertEqual(cut, str(twice(side)[0]))
            self.assertTrue(said_by_reading(side, int(cut), read_numbers(firsts), read_numbers(seconds)))
            self.assertEqual(len(read_numbers(firsts)), max(twice_lengths(side)))
        else:
            self.assertEqual(text, by_other_files(side, top, word, numbers), (side, top, word, numbers))

    def check_paper(self, side, top, numbers, thread):
        first, last, begin, end = numbers
        self.assertEqual(len(thread), asks_of(side, top).window(*numbers))
        heaps = [[(i + first, j + begin) for i, j in heap] for heap in heaps_of(side[first:last], top[begin:end])]
        self.assertTrue(shows_window(side, top, *numbers, (thread, heaps)))

    def wanted(self, model, line):
        """What the words say of a line: a text, a refusal, or a question that is to be looked at; deeds are done to the model."""
        read = line_by_reading(line)
        if read is None:
            return NoWords(line)
        word, told = read
        if word in DEEDS:
            return caught(model.deed, word, told)
        if word in ("thread", "paper"):
            answer = caught(asks_of(*model.rows).window, *told)
        elif word in ("changes", "twice"):
            answer = None
        else:
            answer = caught(by_other_files, *model.rows, word, told)
        return answer if isinstance(answer, PaneError) else (word, told)

    def asks(self, desk, model, line):
        """Asks a desk and looks at the answer; tells what run has to tell, or None where several texts are right."""
        rows = model.rows
        wanted = self.wanted(model, line)
        answer = caught(desk.ask, line)
        if isinstance(wanted, PaneError):
            self.assertIs(type(answer), type(wanted), (rows, line))
            if isinstance(wanted, NoWords):
                self.assertIs(answer.found, line)
            self.assertEqual(repr(fields_of(answer)), repr(fields_of(wanted)))
            return REFUSALS[type(wanted)]
        if isinstance(wanted, str):
            self.assertEqual(repr(answer), repr(wanted), (rows, line))
        else:
            self.check_answer(*rows, *wanted, answer)
        return answer

    def sees(self, desk, model):
        self.tells(" ".join(row or "-" for row in model.rows), desk.ask, "see")


def drawn_number(chance, many):
    return chance.choice([0, many, chance.randint(0, many), chance.randint(0, many), many + 1, chance.randint(0, 60), 9999]
                         if chance.random() < 0.3 else [0, many, chance.randint(0, many)])


def drawn_line(chance, rows, letters="abc"):
    m, n = len(rows[0]), len(rows[1])
    word = chance.choice(sorted(DEEDS) + ["put"] * 4 + ["undo", "redo", "undo"]) if chance.random() < 0.5 else chance.choice(sorted(QUESTIONS))
    if word == "rows":
        drawn = [some_row(chance, chance.choice([0, 1, 3, 6, 9]), letters) for time in range(2)]
        if chance.random() < 0.15:
            drawn[chance.randint(0, 1)] = chance.choice(["a.b", "a" * 25, "." * 48, "b" * 48])
        return " ".join([word] + [row or "-" for row in drawn])
    if word in ("put", "drop", "change"):
        part = chance.choice(["side", "top"])
        made = [word, part, str(drawn_number(chance, m if part == "side" else n))]
        return " ".join(made if word == "drop" else made + [chance.choice(letters)])
    if word in ("window", "thread", "paper"):
        spans = [sorted([drawn_number(chance, many), drawn_number(chance, many)]) for many in (m, n)]
        if chance.random() < 0.7:
            spans[chance.randint(0, 1)][0] = 0
            which = chance.randint(0, 1)
            spans[which][1] = (m, n)[which]
        return f"{word} {spaced(spans[0])} {spaced(spans[1])}"
    bounds = {"stretch": (n, n), "beginning": (m, n), "ending": (m, n), "across": (m, m), "cost": (n, n), "shortest": (3,),
              "tightest": (3,), "near": (5,), "apart": (5,)}
    numbers = [drawn_number(chance, bound) for bound in bounds.get(word, ())]
    if word in ("stretch", "across", "cost") and chance.random() < 0.85:
        numbers.sort()
    if word in ("shortest", "tightest", "near", "apart") and chance.random() < 0.2:
        numbers = [chance.choice([48, 49, 96, 97])]
    return " ".join([word] + [str(number) for number in numbers])


NO_LINES = ["", " ", "see ", " see", "see  ", "See", "SEE", "see see", "see -", "sea", "lines 0", "rows", "rows a", "rows a b c",
            "rows A b", "rows a B", "rows  a", "rows a,b c", "rows a 0", "rows -- a", "rows -a b", "rows " + "a" * 49 + " b",
            "rows b " + "a" * 49, "put", "put side", "put side 0", "put side 0 a b", "put side 0 ab", "put side 0 .", "put side 0 A",
            "put side 0 0", "put side 0 -", "put side 00 a", "put side 01 a", "put side -1 a", "put side +0 a", "put side a 0",
            "put side 0 side", "put side 0 top", "put a 0 a", "drop z 0", "change side 0 top", "change s 0 a", "put left 0 a", "put Side 0 a", "put 0 side a", "put sidetop 0 a", "put - 0 a", "put side 10000 a", "put side - a",
            "put side  0 a", "put side 0 a\n", "drop", "drop side", "drop side 0 a", "drop side 0 0", "drop 0", "drop 0 side",
            "drop bottom 0", "change side 0", "change side 0 ab", "change side a", "change side 0 .", "turn side", "turn 0", "swap -",
            "undo 1", "redo 0", "undo undo", "none", "window", "window 0", "window 0 0 0", "window 0 0 0 0 0", "window 0,0,0,0",
            "window 0:0 0:0", "window a b c d", "stretch 0", "stretch 0 0 0", "stretch 00 0", "beginning 0", "ending 0",
            "across 0", "shortest", "shortest 0 0", "shortest a", "shortest -", "tightest", "tightest 01", "thread 0 0",
            "paper 0 0 0", "cost", "cost 0", "best 0", "changes -", "near", "near a", "near 1.5", "near 10000", "near -1", "apart",
            "apart x", "ring 0", "openings 0", "twice 0", "twice side", "ask see", "run", "desk", "0", "-", ".", "~", "see\n",
            "\nsee", "see\tsee", "rows\na b", "see see see see", "near 1 ", "undo ", " undo", "a" * 400, "a" * 401, "see " * 100 + "see",
            "put side 99999 a", "put top 0 z z", "drop side 0 ", "rows a b ", "rows -  -", "near " + "1" * 300]


class Drawn(DeskCase):
    def test_drawn_lines(self):
        met = {}
        for seed in range(240, 260):
            chance = random.Random(seed)
            desk, model = Desk(), Model()
            for time in range(220):
                line = drawn_line(chance, model.rows)
                answer = self.asks(desk, model, line)
                word = line.split(" ")[0]
                met.setdefault(word, set()).add(answer if answer in REFUSALS.values() else "answered")
                if time % 7 == 0:
                    self.sees(desk, model)
        for word in {**DEEDS, **QUESTIONS}:
            self.assertIn("answered", met[word], word)
        wanted = {"rows": ["no row"], "put": ["no place"], "drop": ["no place"], "change": ["no place"], "ring": ["no row"],
                  "openings": ["no row"], "window": ["no stretch", "no window"], "thread": ["no stretch", "no window"],
                  "paper": ["no stretch", "no window"], "stretch": ["no stretch"], "across": ["no stretch"], "cost": ["no stretch"],
                  "beginning": ["no place"], "ending": ["no place"], "shortest": ["no place"], "tightest": ["no place"],
                  "near": ["no place"], "apart": ["no place"]}
        for word, refusals in wanted.items():
            for refusal in refusals:
                self.assertIn(refusal, met[word], word)

    def test_rows_of_24_letters(self):
        chance = random.Random(260)
        for side, top in (("a" * 24, "a" * 24), ("ab" * 12, "ba" * 12), ("thequickbrownfoxjumpsove", "packmyboxwithfivedozenli")):
            desk, model = Desk(), Model()
            self.asks(desk, model, f"rows {side} {top}")
            for word, kinds in QUESTIONS.items():
                numbers = {"NNNN": [0, 24, 0, 24], "NN": [0, 24], "N": [12], "": []}[kinds]
                self.asks(desk, model, " ".join([word] + [str(number) for number in numbers]))
            for part in ("side", "top"):
                for place in (0, 12, 24):
                    self.assertEqual(self.asks(desk, model, f"put {part} {place} a"), "too long")
                self.assertEqual(self.asks(desk, model, f"put {part} 25 a"), "no place")
                self.asks(desk, model, f"drop {part} 24")
                self.asks(desk, model, f"drop {part} 23")
                self.asks(desk, model, f"put {part} 23 z")
                self.assertEqual(self.asks(desk, model, f"put {part} 23 z"), "too long")
            for time in range(10):
                self.asks(desk, model, drawn_line(chance, model.rows))

    def test_a_fresh_desk_asked_each_question_first(self):
        for word, kinds in QUESTIONS.items():
            desk, model = Desk(), Model()
            self.asks(desk, model, " ".join([word] + ["0"] * len(kinds)))
            self.sees(desk, model)
        wanted = {"see": "- -", "lines": "-", "window 0 0 0 0": "0", "stretch 0 0": "0", "beginning 0 0": "0", "ending 0 0": "0",
                  "across 0 0": "0", "shortest 0": "0 0", "shortest 1": "none", "tightest 0": "0:0", "tightest 1": "-",
                  "thread 0 0 0 0": "-", "paper 0 0 0 0": "- -", "cost 0 0": "0", "best": "0 0 0", "changes": "-", "near 48": "-",
                  "apart 48": "0", "twice": "0 - -", "undo": "none", "redo": "none", "turn": "- -", "swap": "- -", "rows - -": "- -"}
        for line, text in wanted.items():
            self.assertEqual(repr(Desk().ask(line)), repr(text), line)
        for line in ("ring", "openings"):
            self.refuses(NoPlain, {}, Desk().ask, line)
            self.assertEqual(caught(Desk().ask, line).found, "")

    def test_two_desks_by_turns(self):
        chance = random.Random(261)
        desks = [(Desk(), Model()), (Desk(), Model()), (Desk(), Model())]
        for time in range(150):
            desk, model = chance.choice(desks)
            self.asks(desk, model, drawn_line(chance, model.rows))
            for other, known in desks:
                self.sees(other, known)

    def test_some_plain_cases(self):
        desk = Desk()
        wanted = [("rows abcb bcab", "abcb bcab"), ("window 0 4 0 4", "3"), ("stretch 1 4", "2"), ("ending 2 3", "1"),
                  ("shortest 2", "0 2"), ("tightest 2", "0:2,2:4"), ("swap", "bcab abcb"), ("turn", "bacb bcba"), ("undo", "bcab abcb"),
                  ("rows ab ba", "ab ba"), ("lines", "0,2,1,3"), ("paper 0 1 0 2", "0:1 0:1"), ("cost 0 2", "2"), ("best", "1 0 1"),
                  ("near 1", "1:0:1,1:1:2"), ("apart 1", "2"), ("ring", "2 1"), ("openings", "1,2"), ("rows abab -", "abab -"),
                  ("twice", "2 0,1 2,3"), ("changes", "<a,<b,<a,<b"), ("put top 0 z", "abab z"), ("change side 3 a", "abaa z"),
                  ("drop top 0", "abaa -"), ("undo", "abaa z"), ("undo", "abab z"), ("redo", "abaa z"), ("see", "abaa z")]
        for line, text in wanted:
            self.assertEqual(repr(desk.ask(line)), repr(text), line)


class Undone(DeskCase):
    def test_to_both_ends(self):
        chance = random.Random(262)
        for many in (0, 1, 2, 15, 60):
            desk, model = Desk(), Model()
            while len(model.deeds) <= many:
                line = drawn_line(chance, model.rows)
                if line.split(" ")[0] in DEEDS and line not in ("undo", "redo"):
                    self.asks(desk, model, line)
            states = list(model.deeds)
            for time in range(2):
                for rows in reversed(states[:-1]):
                    self.assertEqual(self.asks(desk, model, "undo"), " ".join(row or "-" for row in rows))
                for more in range(3):
                    self.assertEqual(self.asks(desk, model, "undo"), "none")
                self.assertEqual(desk.ask("see"), "- -")
                for rows in states[1:]:
                    self.assertEqual(self.asks(desk, model, "redo"), " ".join(row or "-" for row in rows))
                for more in range(3):
                    self.assertEqual(self.asks(desk, model, "redo"), "none")
                self.sees(desk, model)

    def test_behind_another_deed(self):
        for line in ("rows a b", "put top 0 z", "drop side 0", "change side 0 z", "change side 0 a", "turn", "swap", "rows ab cd"):
            desk = Desk()
            for first in ("rows ab cd", "turn", "swap"):
                desk.ask(first)
            desk.ask("undo")
            desk.ask("undo")
            self.assertEqual(desk.ask("see"), "ab cd")
            told = desk.ask(line)
            self.assertEqual(desk.ask("redo"), "none")
            self.assertEqual(desk.ask("see"), told)
            self.assertEqual(desk.ask("undo"), "ab cd")
            self.assertEqual(desk.ask("redo"), told)
            self.assertEqual(desk.ask("redo"), "none")
            self.assertEqual([desk.ask("undo") for time in range(3)], ["ab cd", "- -", "none"])

    def test_deeds_that_leave_all_as_it_is_stand(self):
        desk = Desk()
        desk.ask("rows aba a")
        for line in ("turn", "change side 0 a", "rows aba a"):
            self.assertEqual(desk.ask(line), "aba a")
        self.assertEqual([desk.ask("undo") for time in range(5)], ["aba a", "aba a", "aba a", "- -", "none"])
        self.assertEqual([desk.ask("redo") for time in range(5)], ["aba a"] * 4 + ["none"])

    def test_what_is_refused_or_asked_leaves_what_was_taken_back(self):
        desk = Desk()
        desk.ask("rows ab cd")
        desk.ask("turn")
        desk.ask("undo")
        for line in ("drop side 2", "put top 3 a", "rows a. b", "rows ab", "turns", None, "near 49", "ring", "see", "lines", "paper 0 2 0 2"):
            caught(desk.ask, line)
        self.assertEqual(desk.ask("redo"), "ba dc")
        desk.ask("undo")
        desk.ask("undo")
        self.assertEqual(desk.ask("undo"), "none")
        self.assertEqual([desk.ask("redo"), desk.ask("redo"), desk.ask("redo")], ["ab cd", "ba dc", "none"])


class Refused(DeskCase):
    def some_desks(self):
        made = []
        for lines in ([], ["rows ab abc"], ["rows ab abc", "turn", "undo"], ["rows " + "a" * 24 + " " + "b" * 24]):
            desk, model = Desk(), Model()
            for line in lines:
                self.asks(desk, model, line)
            made.append((desk, model))
        return made

    def test_no_words(self):
        for desk, model in self.some_desks():
            for line in NO_LINES + odd_things() + [["see"], ("see",), {"see": "see"}]:
                if line_by_reading(line) is None:
                    self.refuses(NoWords, {"found": line}, desk.ask, line)
                    self.assertEqual(desk.run([line]), ["no words"])
            self.sees(desk, model)
            for line in ("undo", "undo", "redo", "redo", "redo", "undo"):
                self.asks(desk, model, line)

    def test_all_of_those_are_no_lines(self):
        for line in NO_LINES:
            self.assertIsNone(line_by_reading(line), line)

    def test_the_words_go_first(self):
        desk = Desk()
        for line in ("put side 7 A", "put side 7 ab", "drop left 7", "rows a. B", "rows " + "a" * 25 + " A", "window 9 9 9 x", "near 49 49"):
            self.refuses(NoWords, {"found": line}, desk.ask, line)

    def test_no_plain(self):
        for desk, model in self.some_desks():
            for line, found in (("rows a. b", "a."), ("rows b a.", "a."), ("rows . ..", "."), ("rows " + "a" * 25 + " .", "a" * 25),
                                ("rows - " + "a" * 48, "a" * 48), ("rows - .", ".")):
                self.assertEqual(repr(caught(desk.ask, line).found), repr(found))
                self.assertEqual(self.asks(desk, model, line), "no row")
                self.assertEqual(desk.run([line]), ["no row"])
                self.sees(desk, model)

    def test_each_refusal_with_what_it_holds(self):
        desk = Desk()
        desk.ask("rows ab abc")
        wanted = {"put side 3 a": (NoPlace, {"found": 3}), "put top 4 a": (NoPlace, {"found": 4}), "drop side 2": (NoPlace, {"found": 2}),
                  "drop top 3": (NoPlace, {"found": 3}), "change side 2 a": (NoPlace, {"found": 2}),
                  "change top 9999 z": (NoPlace, {"found": 9999}), "window 0 3 0 3": (NoSpan, {"begin": 0, "end": 3}),
                  "window 2 1 9 9": (NoSpan, {"begin": 2, "end": 1}), "window 0 2 3 2": (NoSpan, {"begin": 3, "end": 2}),
                  "window 1 2 1 3": (NoWindow, {"found": (1, 2, 1, 3)}), "thread 0 1 0 1": (NoWindow, {"found": (0, 1, 0, 1)}),
                  "paper 1 1 1 1": (NoWindow, {"found": (1, 1, 1, 1)}), "thread 0 3 0 9": (NoSpan, {"begin": 0, "end": 3}),
                  "paper 0 2 0 4": (NoSpan, {"begin": 0, "end": 4}), "stretch 0 4": (NoSpan, {"begin": 0, "end": 4}),
                  "across 1 3": (NoSpan, {"begin": 1, "end": 3}), "cost 2 1": (NoSpan, {"begin": 2, "end": 1}),
                  "beginning 3 4": (NoPlace, {"found": 3}), "beginning 2 4": (NoPlace, {"found": 4}), "ending 3 4": (NoPlace, {"found": 3}),
                  "ending 0 4": (NoPlace, {"found": 4}), "shortest 97": (NoPlace, {"found": 97}), "tightest 97": (NoPlace, {"found": 97}),
                  "near 49": (NoPlace, {"found": 49}), "apart 49": (NoPlace, {"found": 49})}
        for line, (error, fields) in wanted.items():
            answer = caught(desk.ask, line)
            self.assertIs(type(answer), error, line)
            self.assertEqual(repr(fields_of(answer)), repr(fields), line)
            self.assertEqual(desk.run([line, "see"]), [REFUSALS[error], "ab abc"])
        desk.ask("rows abc -")
        for line in ("ring", "openings"):
            answer = caught(desk.ask, line)
            self.assertIs(type(answer), NoPlain)
            self.assertEqual(answer.found, "")
            self.assertEqual(desk.run([line, "see"]), ["no row", "abc -"])


class Run(DeskCase):
    def test_drawn_lines(self):
        for seed in range(263, 272):
            chance = random.Random(seed)
            desk, other, model = Desk(), Desk(), Model()
            lines, texts = [], []
            for time in range(60):
                line = drawn_line(chance, model.rows) if chance.random() < 0.85 else chance.choice(NO_LINES + [None, 0, [], True])
                lines.append(line)
                texts.append(self.asks(desk, model, line))
            shown = repr(lines)
            told = other.run(lines)
            self.assertIs(type(told), list)
            self.assertEqual(repr(told), repr(texts))
            self.assertEqual(repr(lines), shown)
            self.sees(other, model)

    def test_any_things(self):
        for thing in odd_things():
            desk = Desk()
            text = "no words" if line_by_reading(thing) is None else None
            self.assertEqual(desk.run(["rows a b", thing, "see"])[::2], ["a b", "a b"])
            if text:
                self.assertEqual(desk.run([thing]), [text])

    def test_none_and_60(self):
        desk = Desk()
        self.tells([], desk.run, [])
        self.assertEqual(desk.run(["put side 0 a"] * 60)[-1], "too long")
        self.assertEqual(desk.run(["undo"] * 60), [("a" * (23 - time) or "-") + " -" for time in range(24)] + ["none"] * 36)
        self.fresh(desk.run, ["see", "lines", None, "near 99"])

    def test_each_text(self):
        desk = Desk()
        lines = ["rows ab abc", "seen", "rows a. b", "drop side 2", "stretch 2 1", "window 1 2 1 2", "rows " + "a" * 24 + " -", "put side 0 a", "ring"]
        self.assertEqual(desk.run(lines), ["ab abc", "no words", "no row", "no place", "no stretch", "no window", "a" * 24 + " -", "too long",
                                           "no row"])

    def test_a_lines_list_is_left_as_it_is(self):
        lines = ["rows a b", ["see"], "see"]
        Desk().run(lines)
        self.assertEqual(lines, ["rows a b", ["see"], "see"])


if __name__ == "__main__":
    unittest.main()
