"""The interface: each name in its file, with its arguments, and the classes with their methods."""

import importlib
import inspect
import unittest

FUNCTIONS = {
    "rows": "is_row(thing) is_plain(thing) parted(row) unparted(row) turned(row) renamed(row,names) places_of(row) "
            "stretch_of(row,begin,end)",
    "threads": "lengths(side,top) longest(side,top) thread_of(side,top) is_thread(side,top,thing) said(side,top,thread)",
    "heaps": "pairs_of(side,top) are_heaps(side,top,thing) heaps_of(side,top) paper_of(side,top) shows(side,top,thing)",
    "turnings": "is_turning(thing) straight(many) opposite(turning) about(turning) counted(turning,begin,end) counts(turning) "
                "from_counts(table) crossings(turning)",
    "laying": "by_steps(many,steps) working_steps(many,steps) steps_of(turning) laid(one,other) middle(one,other,begin,end)",
    "boards": "walked(many,far,cells) is_board(side,top,thing)",
    "asks": "asks_of(side,top)",
    "windows": "window_paper(side,top,first,last,begin,end) shows_window(side,top,first,last,begin,end,thing)",
    "pieces": "strip(letter,row) balanced(side,top)",
    "changes": "is_changes(thing) paid(changes) done(row,changes) back(changes) after(one,other)",
    "costs": "cost(side,top) changes_of(side,top) cost_paper(side,top) shows_cost(side,top,thing)",
    "near": "near(side,top,most) is_ranked(thing) news_of(ahead,behind) followed(ahead,news)",
    "apart": "apart(many,stretches) shows_apart(many,stretches,thing) apart_near(side,top,most)",
    "twice": "twice_lengths(row) twice(row) shows_twice(row,thing)",
    "words": "row_word(row) numbers_word(numbers) pairs_word(pairs) heaps_word(heaps) changes_word(changes) read_row(word) "
             "read_number(word) read_numbers(word) read_pairs(word) read_heaps(word) read_changes(word) words_of(line)",
}
PIECE = "side() top() kind() lines() parts() height()"
CLASSES = {
    ("boards", "Board(side,top)"): "side() top() lines() cells() coming(row,column) way(line) meets(line,other) crossed_at(line,other)",
    ("tallies", "Tally(turning)"): "below(begin,end) ranked(begin,rank) inside(begin,last,low,high)",
    ("asks", "Asks(lines,many)"): "window(first,last,begin,end) stretch(begin,end) beginning(last,begin) ending(first,end) "
                                  "across(first,last) table() sliding(width) gains(begin) losses(end) tightest(length) shortest(length)",
    ("pieces", "Blank(side,top)"): PIECE,
    ("pieces", "One(letter,sign)"): PIECE,
    ("pieces", "Over(upper,lower)"): PIECE,
    ("pieces", "Beside(left,right)"): PIECE,
    ("kept", "Kept(side,top)"): "side() top() lines() height() made() pieces() piece_lines(number) cover(first,last) "
                                "between(first,last) put(place,sign) drop(place) change(place,sign) retop(top) twin()",
    ("costs", "Costs(side,top)"): "side() top() of(begin,end) rows_of() ends() best()",
    ("watch", "Watch(side,top,most)"): "side() top() most() told() rank(begin,end) paper(rank) put(part,place,letter) "
                                       "drop(part,place) change(part,place,letter) limit(most)",
    ("rings", "Ring(side,row)"): PIECE + " opening(place) length(place) lengths() stretch(place,many) best() paper(place) "
                                         "is_same(other) least()",
    ("desk", "Desk()"): "ask(line) run(lines)",
}


def parted(form):
    name, behind = form.rstrip(")").split("(")
    return name, [part for part in behind.split(",") if part]


class Interface(unittest.TestCase):
    def check(self, holder, form, own=0):
        name, wanted = parted(form)
        found = getattr(holder, name)
        parameters = list(inspect.signature(found).parameters.values())[own:]
        self.assertEqual([one.name for one in parameters], wanted, form)
        self.assertTrue(all(one.default is inspect.Parameter.empty for one in parameters), form)

    def test_functions(self):
        for module, forms in FUNCTIONS.items():
            holder = importlib.import_module("panethread." + module)
            for form in forms.split():
                self.check(holder, form)
                self.assertEqual(getattr(holder, parted(form)[0]).__module__, "panethread." + module)

    def test_classes(self):
        for (module, made), forms in CLASSES.items():
            holder = importlib.import_module("panethread." + module)
            self.check(holder, made)
            for form in forms.split():
                self.check(getattr(holder, parted(made)[0]), form, own=1)

    def test_answers_is_there(self):
        self.assertTrue(importlib.import_module("panethread.answers"))


if __name__ == "__main__":
    unittest.main()
