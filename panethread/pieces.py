"""Pieces: a side, a top and the lines of their board, laid together over and beside one another."""

from panethread.errors import NoPiece, TooLong, Unlike
from panethread.kinds import MOST_SIGNS, need_sign
from panethread.laying import laid
from panethread.rows import need_row, need_rows
from panethread.turnings import straight


class Piece:
    def __init__(self, side, top, kind, lines, parts):
        self.held_side = side
        self.held_top = top
        self.held_kind = kind
        self.held_lines = list(lines)
        self.held_parts = list(parts)
        self.held_height = max([part.height() + 1 for part in parts], default=0)

    def side(self):
        return self.held_side

    def top(self):
        return self.held_top

    def kind(self):
        return self.held_kind

    def lines(self):
        return list(self.held_lines)

    def parts(self):
        return list(self.held_parts)

    def height(self):
        return self.held_height


def need_pieces(one, other):
    for thing in (one, other):
        if not isinstance(thing, Piece):
            raise NoPiece(thing)


def need_same(one, other):
    if one != other:
        raise Unlike(one, other)


def need_short(row):
    if len(row) > MOST_SIGNS:
        raise TooLong(len(row))


def lines_over(upper, lower, far):
    high = len(upper) - far
    low = len(lower) - far
    one = straight(low) + [low + end for end in upper]
    other = lower + list(range(low + far, low + far + high))
    return laid(one, other)


def lines_beside(left, right, many):
    near = len(left) - many
    far = len(right) - many
    one = left + list(range(many + near, many + near + far))
    other = straight(near) + [near + end for end in right]
    return laid(one, other)


class Blank(Piece):
    def __init__(self, side, top):
        need_rows(side, top)
        if len(side) > 0 and len(top) > 0:
            raise NoPiece((side, top))
        Piece.__init__(self, side, top, "blank", straight(len(side) + len(top)), [])


class One(Piece):
    def __init__(self, letter, sign):
        need_sign(letter)
        need_sign(sign)
        Piece.__init__(self, letter, sign, "one", [0, 1] if letter == sign else [1, 0], [])


class Over(Piece):
    def __init__(self, upper, lower):
        need_pieces(upper, lower)
        need_same(upper.top(), lower.top())
        side = upper.side() + lower.side()
        need_short(side)
        lines = lines_over(upper.lines(), lower.lines(), len(upper.top()))
        Piece.__init__(self, side, upper.top(), "over", lines, [upper, lower])


class Beside(Piece):
    def __init__(self, left, right):
        need_pieces(left, right)
        need_same(left.side(), right.side())
        top = left.top() + right.top()
        need_short(top)
        lines = lines_beside(left.lines(), right.lines(), len(left.side()))
        Piece.__init__(self, left.side(), top, "beside", lines, [left, right])


def strip(letter, row):
    need_sign(letter)
    need_row(row)
    if row == "":
        return Blank(letter, row)
    piece = One(letter, row[0])
    for sign in row[1:]:
        piece = Beside(piece, One(letter, sign))
    return piece


def all_beside(pieces):
    if len(pieces) == 1:
        return pieces[0]
    cut = len(pieces) // 2
    return Beside(all_beside(pieces[:cut]), all_beside(pieces[cut:]))


def all_over(pieces):
    if len(pieces) == 1:
        return pieces[0]
    cut = len(pieces) // 2
    return Over(all_over(pieces[:cut]), all_over(pieces[cut:]))


def balanced(side, top):
    need_rows(side, top)
    if side == "" or top == "":
        return Blank(side, top)
    # Equal signs share one piece, since pieces never change.
    bands = {}
    for sign in side:
        if sign not in bands:
            bands[sign] = all_beside([One(sign, other) for other in top])
    return all_over([bands[sign] for sign in side])
