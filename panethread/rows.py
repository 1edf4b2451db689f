"""Rows and plain rows: what they are, parted, turned about, named anew, their places and stretches, their letters."""

from panethread.errors import NoNames, NoPart, NoPlain, NoRow, TooLong
from panethread.kinds import LETTERS, MOST_LETTERS, MOST_SIGNS, POINT, is_letter, need_letter, need_place, need_span

SIDE = "side"
TOP = "top"


def is_row(thing):
    if not isinstance(thing, str) or len(thing) > MOST_SIGNS:
        return False
    return all([sign in LETTERS + POINT for sign in thing])


def is_plain(thing):
    if not isinstance(thing, str) or len(thing) > MOST_LETTERS:
        return False
    return all([sign in LETTERS for sign in thing])


def need_row(thing):
    if not is_row(thing):
        raise NoRow(thing)


def need_rows(side, top):
    need_row(side)
    need_row(top)


def need_plain(thing):
    if not is_plain(thing):
        raise NoPlain(thing)


def parted(row):
    need_plain(row)
    return "".join([POINT + letter for letter in row])


def unparted(row):
    need_row(row)
    plain = row[1::2]
    if not is_plain(plain) or parted(plain) != row:
        raise NoRow(row)
    return plain


def turned(row):
    need_row(row)
    return "".join(reversed(row))


def are_names(thing):
    if not isinstance(thing, dict):
        return False
    old = list(thing.keys())
    new = list(thing.values())
    # Only letters are sorted: other things may not let themselves be compared.
    if not all([is_letter(name) for name in old + new]):
        return False
    return sorted(old) == sorted(new)


def renamed(row, names):
    need_row(row)
    if not are_names(names):
        raise NoNames(names)
    return "".join([names.get(sign, sign) for sign in row])


def places_of(row):
    need_row(row)
    places = {}
    for place, sign in enumerate(row):
        places.setdefault(sign, []).append(place)
    return places


def stretch_of(row, begin, end):
    need_row(row)
    need_span(begin, end, len(row))
    return row[begin:end]


def row_called(rows, part):
    # rows is a tuple of a side and a top, both plain here and below, and they have to stay so.
    if part == SIDE:
        return rows[0]
    if part == TOP:
        return rows[1]
    raise NoPart(part)


def with_row(rows, part, row):
    return (row, rows[1]) if part == SIDE else (rows[0], row)


def with_put(rows, part, place, letter):
    row = row_called(rows, part)
    need_place(place, 0, len(row))
    need_letter(letter)
    if len(row) >= MOST_LETTERS:
        raise TooLong(len(row) + 1)
    return with_row(rows, part, row[:place] + letter + row[place:])


def with_drop(rows, part, place):
    row = row_called(rows, part)
    need_place(place, 0, len(row) - 1)
    return with_row(rows, part, row[:place] + row[place + 1:])


def with_change(rows, part, place, letter):
    row = row_called(rows, part)
    need_place(place, 0, len(row) - 1)
    need_letter(letter)
    return with_row(rows, part, row[:place] + letter + row[place + 1:])
