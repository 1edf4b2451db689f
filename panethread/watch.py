"""A watch: the near list of two plain rows and a limit, all of which change, with the news of each change."""

from panethread.costs import cost_paper
from panethread.errors import NoPart
from panethread.kinds import SIDE, TOP, need_place, need_span
from panethread.near import near, news_of
from panethread.rows import with_letter, with_other_letter, without_letter


class Watch:
    def __init__(self, side, top, most):
        self.held_near = near(side, top, most)
        self.held_side = side
        self.held_top = top
        self.held_most = most

    def side(self):
        return self.held_side

    def top(self):
        return self.held_top

    def most(self):
        return self.held_most

    def told(self):
        return list(self.held_near)

    def rank(self, begin, end):
        need_span(begin, end, len(self.held_top))
        for place, priced in enumerate(self.held_near):
            if (priced[1], priced[2]) == (begin, end):
                return place
        return None

    def paper(self, rank):
        need_place(rank, 0, len(self.held_near) - 1)
        priced = self.held_near[rank]
        return cost_paper(self.held_side, self.held_top[priced[1]:priced[2]])

    def renewed(self, side, top, most):
        ahead = self.held_near
        # Nothing is kept ahead of this, since it may still be refused.
        behind = near(side, top, most)
        self.held_near = behind
        self.held_side = side
        self.held_top = top
        self.held_most = most
        return news_of(ahead, behind)

    def row_called(self, part):
        if part == SIDE:
            return self.held_side
        if part == TOP:
            return self.held_top
        raise NoPart(part)

    def with_row(self, part, row):
        if part == SIDE:
            return self.renewed(row, self.held_top, self.held_most)
        return self.renewed(self.held_side, row, self.held_most)

    def put(self, part, place, letter):
        return self.with_row(part, with_letter(self.row_called(part), place, letter))

    def drop(self, part, place):
        return self.with_row(part, without_letter(self.row_called(part), place))

    def change(self, part, place, letter):
        return self.with_row(part, with_other_letter(self.row_called(part), place, letter))

    def limit(self, most):
        return self.renewed(self.held_side, self.held_top, most)
