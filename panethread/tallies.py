"""A tally of a turning: how many of its lines begin and end within which places, and which ends they have."""

from panethread.kinds import need_place, need_span
from panethread.turnings import counts, need_turning


class Tally:
    def __init__(self, turning):
        need_turning(turning)
        self.held_ends = list(turning)
        self.held_counts = counts(turning)

    def below(self, begin, end):
        need_place(begin, 0, len(self.held_ends))
        need_place(end, 0, len(self.held_ends))
        return self.held_counts[begin][end]

    def ranked(self, begin, rank):
        many = len(self.held_ends)
        need_place(begin, 0, many)
        need_place(rank, 0, many - begin - 1)
        return sorted(self.held_ends[begin:])[rank]

    def inside(self, begin, last, low, high):
        need_span(begin, last, len(self.held_ends))
        need_span(low, high, len(self.held_ends))
        return self.ends_within(begin, low, high) - self.ends_within(last, low, high)

    def ends_within(self, begin, low, high):
        return self.held_counts[begin][high] - self.held_counts[begin][low]
