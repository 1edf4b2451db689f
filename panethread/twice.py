"""What a plain row says twice: a cut, a thread of what stands ahead of it and behind it, and heaps for every cut."""

from panethread.asks import asks_of
from panethread.heaps import are_heaps
from panethread.kinds import is_number, is_within
from panethread.rows import need_plain
from panethread.threads import is_thread
from panethread.windows import are_lists_of_pairs, moved, moved_heaps, window_paper


def twice_lengths(row):
    need_plain(row)
    asks = asks_of(row, row)
    return [asks.beginning(cut, cut) for cut in range(len(row) + 1)]


def paper_of_cut(row, cut):
    return window_paper(row, row, 0, cut, cut, len(row))


def twice(row):
    told = twice_lengths(row)
    cut = told.index(max(told))
    thread = paper_of_cut(row, cut)[0]
    heaps = [paper_of_cut(row, other)[1] for other in range(len(row) + 1)]
    return (cut, [pair[0] for pair in thread], [pair[1] for pair in thread], heaps)


def are_places(thing):
    return isinstance(thing, list) and all([is_number(place) for place in thing])


def says_twice(row, cut, firsts, seconds):
    if not is_within(cut, 0, len(row)) or not are_places(firsts) or not are_places(seconds):
        return False
    if len(firsts) != len(seconds):
        return False
    return is_thread(row[:cut], row[cut:], moved(list(zip(firsts, seconds)), 0, -cut))


def are_heaps_of_cut(row, cut, thing):
    # Only pairs of whole numbers can be moved back to the places behind the cut.
    if not are_lists_of_pairs(thing):
        return False
    return are_heaps(row[:cut], row[cut:], moved_heaps(thing, 0, -cut))


def shows_twice(row, thing):
    need_plain(row)
    if not isinstance(thing, tuple) or len(thing) != 4 or not says_twice(row, thing[0], thing[1], thing[2]):
        return False
    heaps = thing[3]
    if not isinstance(heaps, list) or len(heaps) != len(row) + 1:
        return False
    if not all([are_heaps_of_cut(row, cut, part) for cut, part in enumerate(heaps)]):
        return False
    # Fewer ahead of the cut, so that no lesser cut says as much.
    return all([len(part) < len(thing[1]) + (0 if cut < thing[0] else 1) for cut, part in enumerate(heaps)])
