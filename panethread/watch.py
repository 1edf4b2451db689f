"""A watch: the near list of two plain rows and a limit, all of which change, with the news of each change."""

from panethread.costs import cost_paper
from panethread.kinds import need_place, need_span
from panethread.near import near, news_of
from panethread.rows import with_change, with_drop, with_put


class Watch:
    def __init__(self, side, top, most):
        self.held_near = near(side, top, most)
        self.held_rows = (side, top)
        self.held_most = most

    def side(self):
        return self.held_rows[0]

    def top(self):
        return self.held_rows[1]

    def most(self):
        return self.held_most

    def told(self):
        return list(self.held_near)

    def rank(self, begin, end):
        need_span(begin, end, len(self.top()))
        for place, priced in enumerate(self.held_near):
            if (priced[1], priced[2]) == (begin, end):
                return place
        return None

    def paper(self, rank):
        need_place(rank, 0, len(self.held_near) - 1)
        priced = self.held_near[rank]
        return cost_paper(self.side(), self.top()[priced[1]:priced[2]])

    def renewed(self, rows, most):
        ahead = self.held_near
        # Nothing is kept ahead of this, since it may still be refused.
        behind = near(rows[0], rows[1], most)
        self.held_near = behind
        self.held_rows = rows
        self.held_most = most
        return news_of(ahead, behind)

    def put(self, part, place, letter):
        return self.renewed(with_put(self.held_rows, part, place, letter), self.held_most)

    def drop(self, part, place):
        return self.renewed(with_drop(self.held_rows, part, place), self.held_most)

    def change(self, part, place, letter):
        return self.renewed(with_change(self.held_rows, part, place, letter), self.held_most)

    def limit(self, most):
        return self.renewed(self.held_rows, most)
