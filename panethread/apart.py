"""Stretches apart from one another that are worth the most in all, shown by prices on places that cover them."""

from panethread.errors import NoStretches
from panethread.kinds import MOST_LETTERS, is_number, is_span, is_within, need_place
from panethread.near import near

MOST_STRETCHES = 400
MOST_WORTH = 1000000


def is_worthy(many, thing):
    if not isinstance(thing, tuple) or len(thing) != 3 or not is_within(thing[0], 1, MOST_WORTH):
        return False
    return is_span(thing[1], thing[2], many) and thing[1] < thing[2]


def need_stretches(many, thing):
    need_place(many, 0, MOST_LETTERS)
    if not isinstance(thing, list) or len(thing) > MOST_STRETCHES:
        raise NoStretches(thing)
    if not all([is_worthy(many, stretch) for stretch in thing]):
        raise NoStretches(thing)


def sums_by_end(many, stretches):
    # At each place the most that stretches apart which end there or ahead of it are worth.
    sums = [0]
    for end in range(1, many + 1):
        ending = [sums[stretch[1]] + stretch[0] for stretch in stretches if stretch[2] == end]
        sums.append(max(ending + [sums[-1]]))
    return sums


def last_of_the_most(stretches, sums, end):
    for place, stretch in enumerate(stretches):
        if stretch[2] == end and sums[stretch[1]] + stretch[0] == sums[end]:
            return place
    return None


def chosen_from(stretches, sums):
    chosen = []
    end = len(sums) - 1
    while end > 0:
        place = last_of_the_most(stretches, sums, end)
        if place is None:
            end -= 1
        else:
            chosen.append(place)
            end = stretches[place][1]
    return sorted(chosen)


def apart(many, stretches):
    need_stretches(many, stretches)
    sums = sums_by_end(many, stretches)
    # A stretch put to the sum at its begin never passes the sum at its end, so these steps cover it.
    prices = [sums[place + 1] - sums[place] for place in range(many)]
    return (sums[-1], chosen_from(stretches, sums), prices)


def are_rising_places(thing, many):
    if not isinstance(thing, list) or not all([is_within(place, 0, many - 1) for place in thing]):
        return False
    return all([thing[k] < thing[k + 1] for k in range(len(thing) - 1)])


def are_apart(stretches):
    spans = sorted([(stretch[1], stretch[2]) for stretch in stretches])
    return all([spans[k][1] <= spans[k + 1][0] for k in range(len(spans) - 1)])


def do_cover(many, stretches, thing):
    if not isinstance(thing, list) or len(thing) != many:
        return False
    if not all([is_number(price) and price >= 0 for price in thing]):
        return False
    return all([sum(thing[stretch[1]:stretch[2]]) >= stretch[0] for stretch in stretches])


def shows_apart(many, stretches, thing):
    need_stretches(many, stretches)
    if not isinstance(thing, tuple) or len(thing) != 3 or not is_number(thing[0]):
        return False
    if not are_rising_places(thing[1], len(stretches)) or not do_cover(many, stretches, thing[2]):
        return False
    chosen = [stretches[place] for place in thing[1]]
    if not are_apart(chosen):
        return False
    return sum([stretch[0] for stretch in chosen]) == thing[0] == sum(thing[2])


def apart_near(side, top, most):
    stretches = [(most + 1 - priced[0], priced[1], priced[2]) for priced in near(side, top, most)]
    return apart(len(top), stretches)
