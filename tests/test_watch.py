"""Points [91] and [93], what [8] says of the news of changes, and panethread/watch.py."""

import random
import unittest

from panethread.costs import shows_cost
from panethread.errors import NoLetter, NoPart, NoPlace, NoPlain, NoSpan, TooLong
from panethread.near import followed, near
from panethread.watch import Watch

from common import Case, odd_things, plain_by_reading, two_rows, within
from test_changes import letter_by_reading
from test_costs import FEW, LONG, shows_by_reading
from test_near import near_by_reading, news_by_words
from test_tallies import span_by_reading, spans


def told_by(watch):
    """All that a watch tells at a moment."""
    told = watch.told()
    return repr((watch.side(), watch.top(), watch.most(), told, [watch.rank(*span) for span in spans(len(watch.top()))],
                 [watch.paper(rank) for rank in range(len(told))]))


class Follower:
    """What is known of a watch from all deeds that were done to it."""

    def __init__(self, case, side, top, most, papers=None):
        self.case, self.watch, self.papers = case, Watch(side, top, most), papers
        self.rows, self.most = {"side": side, "top": top}, most
        self.heard = self.near()
        self.look()

    def near(self):
        return near_by_reading(self.rows["side"], self.rows["top"], self.most)

    def look(self):
        case, watch, side, top = self.case, self.watch, self.rows["side"], self.rows["top"]
        told = self.near()
        case.tells(side, watch.side)
        case.tells(top, watch.top)
        case.tells(self.most, watch.most)
        case.tells(told, watch.told)
        ranks = {priced[1:]: rank for rank, priced in enumerate(told)}
        for begin, end in spans(len(top)):
            case.assertEqual(repr(watch.rank(begin, end)), repr(ranks.get((begin, end))))
        for rank in range(len(told)) if self.papers is None else self.papers(len(told)):
            pay, begin, end = told[rank]
            paper = watch.paper(rank)
            case.assertTrue(shows_by_reading(side, top[begin:end], paper))
            case.truth(True, shows_cost, side, top[begin:end], paper)
            case.assertEqual(len(side) + end - begin - len(paper[1]), pay)

    def hears(self, news):
        """The news are those of the lists ahead and behind, and by them alone the list is known."""
        behind = self.near()
        self.case.assertEqual(repr(news), repr(news_by_words(self.heard, behind)))
        self.case.tells(behind, followed, self.heard, news)
        self.heard = behind
        self.look()

    def put(self, part, place, letter):
        news = self.watch.put(part, place, letter)
        self.rows[part] = self.rows[part][:place] + letter + self.rows[part][place:]
        self.hears(news)

    def drop(self, part, place):
        news = self.watch.drop(part, place)
        self.rows[part] = self.rows[part][:place] + self.rows[part][place + 1:]
        self.hears(news)

    def change(self, part, place, letter):
        news = self.watch.change(part, place, letter)
        self.rows[part] = self.rows[part][:place] + letter + self.rows[part][place + 1:]
        self.hears(news)

    def limit(self, most):
        news = self.watch.limit(most)
        self.most = most
        self.hears(news)

    def drawn_deed(self, chance, letters="abc", deeds=("put", "put", "drop", "change", "limit")):
        part, deed = chance.choice(["side", "top"]), chance.choice(deeds)
        many = len(self.rows[part])
        if deed == "put" and many < 24:
            self.put(part, chance.choice([0, many, chance.randint(0, many)]), chance.choice(letters))
        elif deed == "drop" and many > 0:
            self.drop(part, chance.choice([0, many - 1, chance.randrange(many)]))
        elif deed == "change" and many > 0:
            self.change(part, chance.randrange(many), chance.choice(letters))
        elif deed == "limit":
            self.limit(chance.choice([0, 1, 2, 3, 5, 24, 48, chance.randint(0, 48)]))


class Deeds(Case):
    def test_drawn_deeds(self):
        chance = random.Random(180)
        for side, top in FEW + two_rows(181, 12, 6, "ab"):
            follower = Follower(self, side, top, chance.choice([0, 1, 2, 3, 48]))
            for time in range(14):
                follower.drawn_deed(chance)

    def test_rows_of_24_letters(self):
        chance = random.Random(182)
        some = lambda many: sorted({0, many // 2, many - 1} & set(range(many)))
        for side, top in LONG:
            follower = Follower(self, side, top, chance.choice([2, 12, 20, 48]), some)
            for time in range(5):
                follower.drawn_deed(chance, "abz")

    def test_up_to_24_letters_and_down_to_none(self):
        chance = random.Random(183)
        few = lambda many: [chance.randrange(many)] if many else []
        for part in ("side", "top"):
            follower = Follower(self, *(("", "abcab") if part == "side" else ("abcab", "")), 4, few)
            for many in range(24):
                follower.put(part, chance.randint(0, many), chance.choice("abc"))
            self.refuses(TooLong, {}, follower.watch.put, part, 0, "a")
            for many in range(24, 0, -1):
                follower.drop(part, chance.randrange(many))
            self.refuses(NoPlace, {"found": 0}, follower.watch.drop, part, 0)
            follower.put(part, 0, "b")

    def test_all_limits(self):
        follower = Follower(self, "abcab", "cabbac", 0)
        for most in list(range(1, 49)) + list(range(48, -1, -1)):
            follower.limit(most)

    def test_deeds_that_leave_all_as_it_is(self):
        watch = Watch("ab", "abab", 2)
        self.assertEqual(watch.limit(2), ([], [], []))
        self.assertEqual(watch.change("side", 1, "b"), ([], [], []))
        self.assertEqual(watch.change("top", 3, "b"), ([], [], []))
        self.assertEqual(told_by(watch), told_by(Watch("ab", "abab", 2)))

    def test_some_plain_cases(self):
        watch = Watch("ab", "xab", 0)
        self.tells([(0, 1, 3)], watch.told)
        self.assertEqual(watch.put("top", 0, "a"), ([(0, 2, 4)], [(0, 1, 3)], []))
        self.assertEqual(watch.drop("top", 1), ([(0, 1, 3)], [(0, 2, 4)], []))
        self.assertEqual(watch.limit(1), ([(1, 0, 1), (1, 0, 2), (1, 0, 3), (1, 1, 2), (1, 2, 3)], [], []))
        self.assertEqual(watch.change("side", 1, "a"), ([], [(1, 2, 3)], [(0, 2, 1, 0, 2, 0), (0, 3, 1, 1, 3, 2),
                                                                              (1, 2, 1, 1, 4, 3), (1, 3, 0, 1, 0, 4)]))
        self.tells("aa", watch.side)
        self.tells("aab", watch.top)
        self.tells(1, watch.most)
        self.tells(0, watch.rank, 0, 2)
        self.tells(None, watch.rank, 2, 3)
        self.tells(None, watch.rank, 0, 0)
        self.tells(None, watch.rank, 3, 3)

    def test_told_anew(self):
        for side, top in FEW:
            watch = Watch(side, top, 3)
            self.fresh(watch.told)
            for rank in range(len(watch.told())):
                self.fresh(watch.paper, rank)
            for deed in (lambda: watch.put("top", 0, "a"), lambda: watch.change("top", 0, "b"), lambda: watch.limit(48),
                         lambda: watch.drop("top", 0), lambda: watch.limit(2), lambda: watch.put("side", 0, "c")):
                news = deed()
                shown = told_by(watch)
                for part in news:
                    part.append(None)
                    part.reverse()
                self.assertEqual(told_by(watch), shown)
                self.assertEqual(watch.told(), near(watch.side(), watch.top(), watch.most()))

    def test_two_watches_by_turns(self):
        chance = random.Random(185)
        followers = [Follower(self, "ab", "abba", 2), Follower(self, "ab", "abba", 2), Follower(self, "", "", 48)]
        for time in range(24):
            acting = chance.choice(followers)
            others = [other for other in followers if other is not acting]
            shown = [told_by(other.watch) for other in others]
            acting.drawn_deed(chance)
            self.assertEqual([told_by(other.watch) for other in others], shown)

    def test_questions_change_nothing(self):
        watch = Watch("abc", "cabac", 3)
        shown = told_by(watch)
        for time in range(3):
            self.assertEqual(told_by(watch), shown)


class Refused(Case):
    def some_watches(self):
        made = [Watch("", "", 0), Watch("", "ab", 1), Watch("abc", "", 48), Watch("ab", "cab", 2), Watch("a" * 24, "b" * 24, 24)]
        made[3].put("top", 1, "a")
        return made

    def check(self, watch, error, fields, call, *handed):
        self.refuses(error, fields, call, *handed)
        self.assertEqual((watch.side(), watch.top(), watch.most(), watch.told()), self.before)

    def watches(self):
        for watch in self.some_watches():
            self.before = (watch.side(), watch.top(), watch.most(), watch.told())
            shown = told_by(watch)
            yield watch
            self.assertEqual(told_by(watch), shown)

    def test_made(self):
        for thing in odd_things() + ["a.", "a" * 25, "A", 49, -1]:
            if not plain_by_reading(thing):
                for most in (0, 49, None):
                    self.refuses(NoPlain, {"found": thing}, Watch, thing, "ab", most)
                    self.refuses(NoPlain, {"found": thing}, Watch, thing, "A", most)
                    self.refuses(NoPlain, {"found": thing}, Watch, "ab", thing, most)
            if not within(thing, 0, 48):
                self.refuses(NoPlace, {"found": thing}, Watch, "ab", "b", thing)

    def test_no_part_goes_first(self):
        things = odd_things() + ["Side", "TOP", "side ", "sid", "topside", ["side"], ("top",), {"side": "top"}, "sidetop", "\ntop"]
        for watch in self.watches():
            for thing in things:
                if thing in ("side", "top"):
                    continue
                for place, letter in ((0, "a"), (99, "A"), (None, None), (thing, thing)):
                    self.check(watch, NoPart, {"found": thing}, watch.put, thing, place, letter)
                    self.check(watch, NoPart, {"found": thing}, watch.change, thing, place, letter)
                    self.check(watch, NoPart, {"found": thing}, watch.drop, thing, place)

    def test_then_no_place(self):
        for watch in self.watches():
            for part, many in (("side", len(watch.side())), ("top", len(watch.top()))):
                for thing in odd_things() + [many, many + 1, -1, "0"]:
                    for letter in ("a", "A", None, "."):
                        if not within(thing, 0, many):
                            self.check(watch, NoPlace, {"found": thing}, watch.put, part, thing, letter)
                        if not within(thing, 0, many - 1):
                            self.check(watch, NoPlace, {"found": thing}, watch.change, part, thing, letter)
                    if not within(thing, 0, many - 1):
                        self.check(watch, NoPlace, {"found": thing}, watch.drop, part, thing)

    def test_then_no_letter(self):
        for watch in self.watches():
            for part, many in (("side", len(watch.side())), ("top", len(watch.top()))):
                for thing in odd_things() + [".", "ab", "", "A", "a\n", ["a"], ("a",)]:
                    if letter_by_reading(thing):
                        continue
                    for place in {0, many}:
                        self.check(watch, NoLetter, {"found": thing}, watch.put, part, place, thing)
                    for place in {0, many - 1} & set(range(many)):
                        self.check(watch, NoLetter, {"found": thing}, watch.change, part, place, thing)

    def test_then_too_long(self):
        for watch in self.watches():
            for part, many in (("side", len(watch.side())), ("top", len(watch.top()))):
                if many < 24:
                    continue
                for place in (0, 12, 24):
                    self.check(watch, TooLong, {}, watch.put, part, place, "a")
                    try:
                        watch.put(part, place, "a")
                    except TooLong as error:
                        self.assertEqual(repr(error.found), "25")
                    self.check(watch, NoLetter, {"found": "."}, watch.put, part, place, ".")
                self.check(watch, NoPlace, {"found": 25}, watch.put, part, 25, "a")

    def test_limit(self):
        for watch in self.watches():
            for thing in odd_things() + [49, -1, "0"]:
                if not within(thing, 0, 48):
                    self.check(watch, NoPlace, {"found": thing}, watch.limit, thing)

    def test_rank(self):
        for watch in self.watches():
            n = len(watch.top())
            things = odd_things() + [n + 1, -1, "0"]
            wrong = [(thing, n) for thing in things] + [(0, thing) for thing in things]
            wrong += [(thing, thing) for thing in things] + [(1, 0), (n, n - 1), (n + 1, n + 1), (0, n + 1)]
            for begin, end in wrong:
                if not span_by_reading(begin, end, n):
                    self.check(watch, NoSpan, {"begin": begin, "end": end}, watch.rank, begin, end)

    def test_paper(self):
        for watch in self.watches():
            many = len(watch.told())
            for thing in odd_things() + [many, many + 1, -1, "0"]:
                if not within(thing, 0, many - 1):
                    self.check(watch, NoPlace, {"found": thing}, watch.paper, thing)

    def test_places_of_the_rows_as_they_are(self):
        watch = Watch("a", "b", 1)
        self.refuses(NoPlace, {"found": 2}, watch.put, "top", 2, "a")
        watch.put("top", 1, "a")
        self.refuses(NoPlace, {"found": 2}, watch.put, "side", 2, "a")
        watch.put("top", 2, "a")
        self.tells("baa", watch.top)
        self.refuses(NoSpan, {"begin": 0, "end": 4}, watch.rank, 0, 4)
        watch.drop("top", 0)
        self.refuses(NoSpan, {"begin": 0, "end": 3}, watch.rank, 0, 3)
        self.refuses(NoPlace, {"found": 2}, watch.drop, "top", 2)


if __name__ == "__main__":
    unittest.main()
