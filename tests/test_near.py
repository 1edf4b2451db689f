"""Points [90], [92], [94] and [95], what [8] says of near stretches, and panethread/near.py."""

import itertools
import random
import unittest

from panethread.errors import NoNear, NoPlace, NoPlain, NoTold
from panethread.near import followed, is_ranked, near, news_of

from common import Case, odd_things, plain_by_reading, some_row, two_rows, whole, within
from test_costs import FEW, LONG, reckoned


def letter_spans(many):
    return [(begin, end) for begin in range(many) for end in range(begin + 1, many + 1)]


def costs_by_reading(side, top):
    """The cost of each stretch with letters, by the letters alone."""
    return {(begin, end): reckoned(side, top[begin:end]) for begin, end in letter_spans(len(top))}


def near_by_reading(side, top, most):
    return sorted((pay, begin, end) for (begin, end), pay in costs_by_reading(side, top).items() if pay <= most)


def priced_by_reading(thing):
    return (type(thing) is tuple and len(thing) == 3 and all(whole(number) for number in thing)
            and 0 <= thing[0] <= 48 and 0 <= thing[1] < thing[2] <= 24)


def ranked_by_reading(thing):
    if type(thing) is not list or not all(priced_by_reading(priced) for priced in thing):
        return False
    return thing == sorted(thing) and len({priced[1:] for priced in thing}) == len(thing)


def news_by_words(ahead, behind):
    """What [92] tells, stretch by stretch."""
    before = {(begin, end): (pay, rank) for rank, (pay, begin, end) in enumerate(ahead)}
    later = {(begin, end): (pay, rank) for rank, (pay, begin, end) in enumerate(behind)}
    came = [(pay, begin, end) for pay, begin, end in behind if (begin, end) not in before]
    went = [(pay, begin, end) for pay, begin, end in ahead if (begin, end) not in later]
    both = sorted((later[span][1], span) for span in before if span in later)
    moved = [span + (before[span][0], later[span][0], before[span][1], later[span][1])
             for rank, span in both if before[span] != later[span]]
    return (came, went, moved)


def behind_by_reading(ahead, news):
    """The list of which these are the news, or None where there is none."""
    if type(news) is not tuple or len(news) != 3 or not all(type(part) is list for part in news):
        return None
    for part, many in zip(news, (3, 3, 6)):
        if not all(type(one) is tuple and len(one) == many and all(whole(number) for number in one) for one in part):
            return None
    stays = {(begin, end): pay for pay, begin, end in ahead}
    for pay, begin, end in news[1]:
        if stays.pop((begin, end), None) != pay:
            return None
    for begin, end, old, new, rank, other in news[2]:
        if stays.get((begin, end)) != old:
            return None
        stays[begin, end] = new
    for pay, begin, end in news[0]:
        if (begin, end) in stays:
            return None
        stays[begin, end] = pay
    behind = sorted((pay, begin, end) for (begin, end), pay in stays.items())
    return behind if ranked_by_reading(behind) and news_by_words(ahead, behind) == news else None


def drawn_ranked(chance, many, places=24, most=48):
    spans = letter_spans(places)
    return sorted((chance.randint(0, most), begin, end) for begin, end in chance.sample(spans, min(many, len(spans))))


def drawn_behind(chance, ahead, places=24, most=48):
    """A ranked list that has much in common with another one."""
    stays = {(begin, end): pay for pay, begin, end in ahead}
    for time in range(chance.randint(0, 6)):
        span = chance.choice(letter_spans(places))
        if span in stays and chance.random() < 0.5:
            stays.pop(span)
        else:
            stays[span] = chance.randint(0, most)
    for span in list(stays):
        if chance.random() < 0.15:
            stays[span] = chance.randint(0, most)
    return sorted((pay, begin, end) for (begin, end), pay in stays.items())


def spoilt_ranked(ranked):
    """The same put otherwise at one place; a few of them are ranked lists still."""
    made = [tuple(ranked), [ranked], (ranked,), {0: ranked}, ranked[::-1], ranked + ranked, ranked + [None], ranked + [()],
            [[]] + ranked, ranked + [(48, 0, 24)], ranked + [(49, 0, 24)], ranked + [(48, 23, 24)], [(0, 0, 1)] + ranked,
            [(-1, 0, 1)] + ranked, ranked + [(48, 23, 25)], ranked + [(48, 24, 24)], ranked + [(48, 24, 25)]]
    for place in sorted({0, len(ranked) // 2, len(ranked) - 1} & set(range(len(ranked)))):
        pay, begin, end = priced = ranked[place]
        others = [list(priced), (pay, begin), (pay, begin, end, end), (), None, True, pay, "abc", [priced], (priced,),
                  {pay: pay, begin: begin, end: end}, (pay, end, begin), (pay, begin, begin), (pay, end, end),
                  (pay, -1, end), (pay, begin - 1, end), (pay, begin + 1, end), (pay, begin, end + 1), (pay, begin, end - 1),
                  (pay, begin, 25), (-1, begin, end), (49, begin, end), (pay - 1, begin, end), (pay + 1, begin, end),
                  (pay == 1, begin, end), (pay, begin == 1, end), (pay, begin, end == 1), (False, begin, end),
                  (pay, False, end), (pay, begin, True), (None, begin, end), (pay, None, end), (pay, begin, None),
                  (str(pay), begin, end), (pay, str(begin), end), (pay, begin, [end]), ((pay,), begin, end),
                  (begin, end, pay), (10 ** 39, begin, end), (pay, -10 ** 39, end), (pay, begin, 10 ** 39)]
        made += [ranked[:place] + [other] + ranked[place + 1:] for other in others]
        made += [ranked[:place] + ranked[place + 1:], ranked[:place] + [priced] + ranked[place:],
                 ranked[:place] + [priced, (min(pay + 1, 48), begin, end)] + ranked[place + 1:],
                 [(0, begin, end)] + ranked, ranked + [(48, begin, end)]]
        if place + 1 < len(ranked):
            made.append(ranked[:place] + [ranked[place + 1], priced] + ranked[place + 2:])
    return made


def spoilt_news(news):
    """The same put otherwise at one place; a few of them fit still."""
    came, went, moved = news
    made = [list(news), news[:2], news + ([],), (news,), [came, went], (went, came, moved), (came, moved, went), None, came,
            {0: came, 1: went, 2: moved}, ([], [], []), (came, went, []), (came, [], moved), ([], went, moved), True, "news",
            (tuple(came), went, moved), (came, tuple(went), moved), (came, went, tuple(moved)), (None, went, moved),
            (came, went, None), (came, {}, moved)]
    for which, part in enumerate(news):
        length = 6 if which == 2 else 3
        more = [part + [(0,) * length], part + [(1, 0, 24) if length == 3 else (0, 24, 0, 1, 0, 0)], part + [None], part + [()],
                part + [[]], part + part, part[::-1]]
        for place in sorted({0, len(part) // 2, len(part) - 1} & set(range(len(part)))):
            one = part[place]
            others = [list(one), one[:-1], one + (0,), (), None, [one], (one,), 0, True]
            for spot in range(length):
                for number in (one[spot] + 1, one[spot] - 1, one[spot] == 1, None, str(one[spot]), 10 ** 39, -1, 0, 48, 49):
                    others.append(one[:spot] + (number,) + one[spot + 1:])
            more += [part[:place] + [other] + part[place + 1:] for other in others]
            more += [part[:place] + part[place + 1:], part[:place] + [one] + part[place:]]
        made += [news[:which] + (other,) + news[which + 1:] for other in more]
    return made


ROWS = FEW + two_rows(170, 15, 7, "ab") + two_rows(171, 15, 9, "abcd")


class Near(Case):
    def test_plain_reckoning_with_all_limits(self):
        for side, top in ROWS:
            table = costs_by_reading(side, top)
            for most in range(49):
                wanted = sorted((pay, begin, end) for (begin, end), pay in table.items() if pay <= most)
                self.assertEqual(repr(near(side, top, most)), repr(wanted), (side, top, most))

    def test_rows_of_24_letters(self):
        for side, top in LONG + two_rows(172, 3, 24, "abc"):
            table = costs_by_reading(side, top)
            for most in (0, 1, 2, 5, 11, 12, 13, 20, 23, 24, 25, 47, 48):
                wanted = sorted((pay, begin, end) for (begin, end), pay in table.items() if pay <= most)
                self.assertEqual(repr(near(side, top, most)), repr(wanted), (side, top, most))

    def test_rows_without_letters(self):
        for most in (0, 1, 24, 48):
            self.tells([], near, "", "", most)
            self.tells([], near, "abc", "", most)
            self.tells([], near, "a" * 24, "", most)
        self.tells([], near, "", "ab", 0)
        self.tells([(1, 0, 1), (1, 1, 2)], near, "", "ab", 1)
        self.tells([(1, 0, 1), (1, 1, 2), (2, 0, 2)], near, "", "ab", 48)

    def test_some_plain_cases(self):
        self.tells([(0, 2, 5)], near, "abc", "xxabcxx", 0)
        self.tells([(0, 2, 5), (1, 1, 5), (1, 2, 4), (1, 2, 6), (1, 3, 5)], near, "abc", "xxabcxx", 1)
        self.tells([], near, "abc", "xyz", 2)
        self.tells([(0, 0, 1), (0, 1, 2), (1, 0, 2)], near, "a", "aa", 48)

    def test_told_anew_and_ranked(self):
        for side, top in ROWS:
            for most in (0, 1, 3, 48):
                self.fresh(near, side, top, most)
                self.truth(True, is_ranked, near(side, top, most))

    def test_refused_in_this_order(self):
        for thing in odd_things() + ["a.", ".", "a" * 25, "aB", 49, -1]:
            if not plain_by_reading(thing):
                for other in ("", "ab", "A", None):
                    for most in (0, 49, None, thing):
                        self.refuses(NoPlain, {"found": thing}, near, thing, other, most)
                for most in (0, 48, 49, None, thing):
                    self.refuses(NoPlain, {"found": thing}, near, "", thing, most)
                    self.refuses(NoPlain, {"found": thing}, near, "z" * 24, thing, most)
            if not within(thing, 0, 48):
                for side, top in (("", ""), ("ab", "b"), ("a" * 24, "b" * 24)):
                    self.refuses(NoPlace, {"found": thing}, near, side, top, thing)


class IsRanked(Case):
    def test_drawn_lists_and_spoilt_ones(self):
        chance = random.Random(173)
        right = 0
        lists = [drawn_ranked(chance, many, places, most) for many in (0, 1, 2, 3, 8, 40)
                 for places, most in ((3, 1), (5, 3), (24, 48))]
        lists += [near(side, top, 48) for side, top in FEW]
        for ranked in lists:
            self.truth(True, is_ranked, ranked)
            for thing in spoilt_ranked(ranked):
                wanted = ranked_by_reading(thing)
                right += wanted
                self.truth(wanted, is_ranked, thing)
        self.assertGreater(right, 100)

    def test_all_stretches(self):
        chance = random.Random(174)
        for pay in (0, 48):
            every = [(pay, begin, end) for begin, end in letter_spans(24)]
            self.truth(True, is_ranked, every)
            self.truth(False, is_ranked, every + [(48, 0, 1)])
            self.truth(False, is_ranked, every[1:] + every[:1])
        self.truth(True, is_ranked, drawn_ranked(chance, 300))

    def test_any_thing(self):
        for thing in odd_things():
            self.truth(ranked_by_reading(thing), is_ranked, thing)
            self.truth(ranked_by_reading([thing]), is_ranked, [thing])
            self.truth(False, is_ranked, [(thing, thing, thing)])
            for handed in ([(thing, 0, 1)], [(0, thing, 24)], [(0, 0, thing)]):
                self.truth(ranked_by_reading(handed), is_ranked, handed)


def small_lists():
    """All ranked lists of three stretches and two costs."""
    made = []
    for pays in itertools.product((None, 0, 1), repeat=3):
        told = zip(pays, ((0, 1), (0, 2), (1, 2)))
        made.append(sorted((pay, begin, end) for pay, (begin, end) in told if pay is not None))
    return made


class News(Case):
    def drawn_pairs(self, seed):
        chance = random.Random(seed)
        made = []
        for places, most in ((3, 1), (4, 2), (6, 3), (24, 48)):
            for time in range(12):
                ahead = drawn_ranked(chance, chance.randint(0, 12), places, most)
                made.append((ahead, drawn_behind(chance, ahead, places, most)))
                made.append((ahead, drawn_ranked(chance, chance.randint(0, 12), places, most)))
        every = drawn_ranked(chance, 300)
        return made + [([], []), ([], every), (every, []), (every, every), (every, drawn_ranked(chance, 300))]

    def test_of_near_lists(self):
        chance = random.Random(175)
        for side, top in ROWS:
            for time in range(4):
                row = some_row(chance, chance.randint(0, 9), "abc")
                ahead = near(side, top, chance.randint(0, 6))
                behind = near(*chance.choice([(side, row), (row, top), (side, top)]), chance.randint(0, 6))
                self.tells(news_by_words(ahead, behind), news_of, ahead, behind)
                self.tells(behind, followed, ahead, news_of(ahead, behind))

    def test_of_drawn_lists(self):
        for ahead, behind in self.drawn_pairs(176):
            news = news_by_words(ahead, behind)
            self.tells(news, news_of, ahead, behind)
            self.tells(behind, followed, ahead, news)

    def test_told_anew(self):
        for ahead, behind in self.drawn_pairs(177)[:60]:
            self.fresh(news_of, ahead, behind)
            self.fresh(followed, ahead, news_of(ahead, behind))
            self.fresh(news_of, ahead, list(ahead))
            self.fresh(followed, ahead, ([], [], []))

    def test_some_plain_cases(self):
        self.tells(([], [], []), news_of, [], [])
        self.tells(([(1, 0, 1)], [], []), news_of, [], [(1, 0, 1)])
        self.tells(([], [(1, 0, 1)], []), news_of, [(1, 0, 1)], [])
        self.tells(([], [], [(0, 1, 1, 2, 0, 0)]), news_of, [(1, 0, 1)], [(2, 0, 1)])
        self.tells(([(0, 5, 6)], [], [(0, 1, 1, 1, 0, 1)]), news_of, [(1, 0, 1)], [(0, 5, 6), (1, 0, 1)])
        self.tells(([], [], [(1, 2, 1, 1, 1, 0), (0, 1, 0, 2, 0, 1)]), news_of, [(0, 0, 1), (1, 1, 2)], [(1, 1, 2), (2, 0, 1)])
        self.tells([(0, 5, 6), (1, 0, 1)], followed, [(1, 0, 1)], ([(0, 5, 6)], [], [(0, 1, 1, 1, 0, 1)]))

    def test_all_small_lists(self):
        lists = small_lists()
        every = {repr(news_by_words(ahead, behind)): news_by_words(ahead, behind) for ahead in lists for behind in lists}
        for ahead in lists:
            fits = {repr(news_by_words(ahead, behind)): behind for behind in lists}
            self.assertEqual(len(fits), len(lists))
            for shown, news in every.items():
                if shown in fits:
                    self.assertEqual(repr(followed(ahead, news)), repr(fits[shown]))
                else:
                    self.refuses(NoTold, {"found": news}, followed, ahead, news)

    def test_spoilt_news(self):
        right = 0
        for ahead, behind in self.drawn_pairs(178)[::3]:
            for thing in spoilt_news(news_by_words(ahead, behind)):
                wanted = behind_by_reading(ahead, thing)
                if wanted is None:
                    self.refuses(NoTold, {"found": thing}, followed, ahead, thing)
                else:
                    right += 1
                    self.tells(wanted, followed, ahead, thing)
        self.assertGreater(right, 20)

    def test_news_of_other_lists(self):
        pairs = self.drawn_pairs(179)[:40]
        for ahead, behind in pairs:
            for one, other in pairs:
                news = news_by_words(one, other)
                wanted = behind_by_reading(ahead, news)
                if wanted is None:
                    self.refuses(NoTold, {"found": news}, followed, ahead, news)
                else:
                    self.tells(wanted, followed, ahead, news)

    def test_any_news(self):
        for ahead in ([], [(0, 0, 1)], [(0, 0, 1), (1, 0, 2)]):
            for thing in odd_things():
                for news in (thing, (thing, [], []), ([], thing, []), ([], [], thing), ([thing], [], []), ([], [], [thing])):
                    wanted = behind_by_reading(ahead, news)
                    if wanted is None:
                        self.refuses(NoTold, {"found": news}, followed, ahead, news)
                    else:
                        self.tells(wanted, followed, ahead, news)

    def test_no_ranked_list(self):
        things = odd_things() + spoilt_ranked([(0, 0, 1), (1, 0, 2), (1, 1, 2)])
        good = [(0, 3, 4)]
        for thing in things:
            if ranked_by_reading(thing):
                continue
            for other in ([], good, None, thing, [(0, 0, 0)]):
                self.refuses(NoNear, {"found": thing}, news_of, thing, other)
            self.refuses(NoNear, {"found": thing}, news_of, [], thing)
            self.refuses(NoNear, {"found": thing}, news_of, good, thing)
            for news in (([], [], []), None, thing, ([], []), ([(0, 0, 1)], [], [])):
                self.refuses(NoNear, {"found": thing}, followed, thing, news)


if __name__ == "__main__":
    unittest.main()
