"""Papers of windows: a longest thread of two cut rows and their heaps, with the places of the whole rows."""

from panethread.asks import need_window
from panethread.heaps import paper_of, shows
from panethread.kinds import is_pair
from panethread.rows import need_rows


def moved(pairs, down, right):
    return [(pair[0] + down, pair[1] + right) for pair in pairs]


def moved_heaps(heaps, down, right):
    return [moved(heap, down, right) for heap in heaps]


def window_paper(side, top, first, last, begin, end):
    need_rows(side, top)
    need_window((first, last, begin, end), len(side), len(top))
    paper = paper_of(side[first:last], top[begin:end])
    return (moved(paper[0], first, begin), moved_heaps(paper[1], first, begin))


def are_pairs(thing):
    return isinstance(thing, list) and all([is_pair(pair) for pair in thing])


def are_lists_of_pairs(thing):
    return isinstance(thing, list) and all([are_pairs(part) for part in thing])


def is_paper_of_pairs(thing):
    if not isinstance(thing, tuple) or len(thing) != 2:
        return False
    return are_pairs(thing[0]) and are_lists_of_pairs(thing[1])


def shows_window(side, top, first, last, begin, end, thing):
    need_rows(side, top)
    need_window((first, last, begin, end), len(side), len(top))
    # Only pairs of whole numbers can be moved back to the places of the cut rows.
    if not is_paper_of_pairs(thing):
        return False
    paper = (moved(thing[0], -first, -begin), moved_heaps(thing[1], -first, -begin))
    return shows(side[first:last], top[begin:end], paper)
