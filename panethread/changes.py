"""Changes that turn one row into another: what they are, what they pay, back, and one list after another."""

from panethread.errors import NoChanges, TooLong, Unlike
from panethread.kinds import is_letter
from panethread.rows import need_plain

KEEP = "keep"
CHANGE = "change"
OUT = "out"
IN = "in"
MOST_CHANGES = 48


def is_change(thing):
    if not isinstance(thing, tuple) or not 2 <= len(thing) <= 3:
        return False
    if not all([is_letter(letter) for letter in thing[1:]]):
        return False
    if len(thing) == 2:
        return thing[0] in (KEEP, OUT, IN)
    return thing[0] == CHANGE and thing[1] != thing[2]


def is_changes(thing):
    if not isinstance(thing, list) or len(thing) > MOST_CHANGES:
        return False
    return all([is_change(change) for change in thing])


def need_changes(thing):
    if not is_changes(thing):
        raise NoChanges(thing)


def old_letter(change):
    return "" if change[0] == IN else change[1]


def new_letter(change):
    return "" if change[0] == OUT else change[-1]


def old_row(changes):
    return "".join([old_letter(change) for change in changes])


def new_row(changes):
    return "".join([new_letter(change) for change in changes])


def change_of(old, new):
    # The empty text stands for no letter.
    if old == "":
        return (IN, new)
    if new == "":
        return (OUT, old)
    return (KEEP, old) if old == new else (CHANGE, old, new)


def paid(changes):
    need_changes(changes)
    return len([change for change in changes if change[0] != KEEP])


def does(row, changes):
    return is_changes(changes) and old_row(changes) == row


def done(row, changes):
    need_plain(row)
    if not does(row, changes):
        raise NoChanges(changes)
    return new_row(changes)


def back(changes):
    need_changes(changes)
    return [change_of(new_letter(change), old_letter(change)) for change in changes]


def loose_groups(changes, loose):
    # Told are the loose changes ahead of each other one, and last those behind all of them.
    groups = [[]]
    for change in changes:
        if change[0] == loose:
            groups[-1].append(change)
        else:
            groups.append([])
    return groups


def bound(changes, loose):
    return [change for change in changes if change[0] != loose]


def come_together(maker, taker):
    old = old_letter(maker)
    new = new_letter(taker)
    return [] if old == "" and new == "" else [change_of(old, new)]


def after(one, other):
    need_changes(one)
    need_changes(other)
    if new_row(one) != old_row(other):
        raise Unlike(new_row(one), old_row(other))
    outs = loose_groups(one, OUT)
    ins = loose_groups(other, IN)
    told = []
    for place, pair in enumerate(zip(bound(one, OUT), bound(other, IN))):
        told.extend(outs[place] + ins[place] + come_together(pair[0], pair[1]))
    told.extend(outs[-1] + ins[-1])
    if len(told) > MOST_CHANGES:
        raise TooLong(len(told))
    return told
