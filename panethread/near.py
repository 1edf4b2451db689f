"""Near stretches: those of a top whose cost keeps to a limit, ranked, and the news from one such list to the next."""

from panethread.costs import Costs
from panethread.errors import NoNear, NoTold
from panethread.kinds import MOST_LETTERS, is_number, is_span, is_within, need_place

MOST_COST = 48


def near(side, top, most):
    costs = Costs(side, top)
    need_place(most, 0, MOST_COST)
    found = []
    for begin, row in enumerate(costs.rows_of()):
        for many, cost in enumerate(row):
            if many > 0 and cost <= most:
                found.append((cost, begin, begin + many))
    return sorted(found)


def are_numbers(thing, many):
    return isinstance(thing, tuple) and len(thing) == many and all([is_number(number) for number in thing])


def is_priced(thing):
    if not are_numbers(thing, 3) or not is_within(thing[0], 0, MOST_COST):
        return False
    return is_span(thing[1], thing[2], MOST_LETTERS) and thing[1] < thing[2]


def span_of(priced):
    return (priced[1], priced[2])


def ranks_of(ranked):
    ranks = {}
    for rank, priced in enumerate(ranked):
        ranks[span_of(priced)] = rank
    return ranks


def is_ranked(thing):
    if not isinstance(thing, list) or not all([is_priced(priced) for priced in thing]):
        return False
    if len(ranks_of(thing)) < len(thing):
        return False
    return all([thing[place] < thing[place + 1] for place in range(len(thing) - 1)])


def need_ranked(thing):
    if not is_ranked(thing):
        raise NoNear(thing)


def not_among(ranked, other):
    ranks = ranks_of(other)
    return [priced for priced in ranked if span_of(priced) not in ranks]


def moved_between(ahead, behind):
    ranks = ranks_of(ahead)
    moved = []
    for rank, priced in enumerate(behind):
        old_rank = ranks.get(span_of(priced))
        if old_rank is None:
            continue
        old_cost = ahead[old_rank][0]
        if (old_cost, old_rank) != (priced[0], rank):
            moved.append((priced[1], priced[2], old_cost, priced[0], old_rank, rank))
    return moved


def news_of(ahead, behind):
    need_ranked(ahead)
    need_ranked(behind)
    return (not_among(behind, ahead), not_among(ahead, behind), moved_between(ahead, behind))


def are_all_numbers(thing, many):
    return isinstance(thing, list) and all([are_numbers(part, many) for part in thing])


def are_news(thing):
    if not isinstance(thing, tuple) or len(thing) != 3:
        return False
    return are_all_numbers(thing[0], 3) and are_all_numbers(thing[1], 3) and are_all_numbers(thing[2], 6)


def told_behind(ahead, news):
    # The one list that the news may be of; whether they are of it is still to be looked at.
    costs = {}
    for priced in not_among(ahead, news[1]) + news[0]:
        costs[span_of(priced)] = priced[0]
    for moved in news[2]:
        costs[(moved[0], moved[1])] = moved[3]
    return sorted([(cost, span[0], span[1]) for span, cost in costs.items()])


def followed(ahead, news):
    need_ranked(ahead)
    if not are_news(news):
        raise NoTold(news)
    behind = told_behind(ahead, news)
    if not is_ranked(behind) or news_of(ahead, behind) != news:
        raise NoTold(news)
    return behind
