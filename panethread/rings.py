"""Rings: rows that go round, against a side; what is told holds of each opening of the ring."""

from panethread.asks import Asks
from panethread.errors import NoPiece, NoPlain
from panethread.heaps import paper_of
from panethread.kinds import need_place
from panethread.pieces import Piece, balanced, lines_beside
from panethread.rows import need_plain


class Ring(Piece):
    def __init__(self, side, row):
        need_plain(side)
        need_plain(row)
        if row == "":
            raise NoPlain(row)
        left = balanced(side, row)
        right = balanced(side, row)
        # Each opening is a stretch of the row written twice, so one set of lines answers of all of them.
        lines = lines_beside(left.lines(), right.lines(), len(side))
        Piece.__init__(self, side, row + row, "ring", lines, [left, right])
        self.held_row = row
        self.held_asks = Asks(lines, len(side))

    def need_opening(self, place):
        need_place(place, 0, len(self.held_row) - 1)

    def opening(self, place):
        self.need_opening(place)
        return self.held_row[place:] + self.held_row[:place]

    def openings(self):
        return [self.opening(place) for place in range(len(self.held_row))]

    def length(self, place):
        return self.stretch(place, len(self.held_row))

    def lengths(self):
        return [self.length(place) for place in range(len(self.held_row))]

    def stretch(self, place, many):
        self.need_opening(place)
        need_place(many, 0, len(self.held_row))
        return self.held_asks.stretch(place, place + many)

    def best(self):
        told = self.lengths()
        return (max(told), told.index(max(told)))

    def gone_round(self, pairs, place):
        return [(pair[0], (place + pair[1]) % len(self.held_row)) for pair in pairs]

    def paper(self, place):
        told = paper_of(self.side(), self.opening(place))
        return (self.gone_round(told[0], place), [self.gone_round(heap, place) for heap in told[1]])

    def is_same(self, other):
        if not isinstance(other, Ring):
            raise NoPiece(other)
        return other.opening(0) in self.openings()

    def least(self):
        return min([(text, place) for place, text in enumerate(self.openings())])
