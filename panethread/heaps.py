"""Heaps of pairs of equal signs, no two of one heap ever in one thread, and papers that show a length by them."""

from panethread.rows import need_rows
from panethread.threads import is_ahead, is_match, is_thread, lengths, thread_of


def pairs_of(side, top):
    need_rows(side, top)
    pairs = []
    for i, sign in enumerate(side):
        for j, other in enumerate(top):
            if sign == other:
                pairs.append((i, j))
    return pairs


def is_stack(side, top, thing):
    if not isinstance(thing, list) or len(thing) == 0:
        return False
    return all([is_match(side, top, pair) for pair in thing])


def holds_all_once(side, top, heaps):
    seen = {}
    for heap in heaps:
        for pair in heap:
            if pair in seen:
                return False
            seen[pair] = True
    return len(seen) == len(pairs_of(side, top))


def has_one_ahead(heap):
    for place, pair in enumerate(heap):
        for earlier in heap[:place]:
            if is_ahead(earlier, pair) or is_ahead(pair, earlier):
                return True
    return False


def are_heaps(side, top, thing):
    need_rows(side, top)
    if not isinstance(thing, list) or not all([is_stack(side, top, heap) for heap in thing]):
        return False
    # Behind this no pair stands twice, so the pairwise look at each heap stays short.
    if not holds_all_once(side, top, thing):
        return False
    return not any([has_one_ahead(heap) for heap in thing])


def heaps_of(side, top):
    table = lengths(side, top)
    heaps = [[] for number in range(table[-1][-1])]
    for pair in pairs_of(side, top):
        # The longest thread that ends with this pair has one pair more than fit ahead of it.
        heaps[table[pair[0]][pair[1]]].append(pair)
    return heaps


def paper_of(side, top):
    return (thread_of(side, top), heaps_of(side, top))


def shows(side, top, thing):
    need_rows(side, top)
    if not isinstance(thing, tuple) or len(thing) != 2:
        return False
    if not is_thread(side, top, thing[0]) or not are_heaps(side, top, thing[1]):
        return False
    return len(thing[0]) == len(thing[1])
