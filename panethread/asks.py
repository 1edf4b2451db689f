"""Asking of the lines: the numbers of all windows of two rows, reckoned from a turning alone."""

from panethread.boards import Board
from panethread.errors import NoWindow
from panethread.kinds import MOST_LINES, need_place, need_span
from panethread.tallies import Tally


def need_window(cut, many, far):
    # cut is (first, last, begin, end): a refusal holds it as it stands.
    need_span(cut[0], cut[1], many)
    need_span(cut[2], cut[3], far)
    if (cut[0] > 0 and cut[2] > 0) or (cut[1] < many and cut[3] < far):
        raise NoWindow(cut)


class Asks:
    def __init__(self, lines, many):
        self.held_tally = Tally(lines)
        need_place(many, 0, len(lines))
        self.held_many = many
        self.held_far = len(lines) - many

    def reckoned(self, first, last, begin, end):
        many = self.held_many
        return end - begin - self.held_tally.below(many - first + begin, many - last + end)

    def reckoned_stretch(self, begin, end):
        return self.reckoned(0, self.held_many, begin, end)

    def window(self, first, last, begin, end):
        need_window((first, last, begin, end), self.held_many, self.held_far)
        return self.reckoned(first, last, begin, end)

    def stretch(self, begin, end):
        need_span(begin, end, self.held_far)
        return self.reckoned_stretch(begin, end)

    def beginning(self, last, begin):
        need_place(last, 0, self.held_many)
        need_place(begin, 0, self.held_far)
        return self.reckoned(0, last, begin, self.held_far)

    def ending(self, first, end):
        need_place(first, 0, self.held_many)
        need_place(end, 0, self.held_far)
        return self.reckoned(first, self.held_many, 0, end)

    def across(self, first, last):
        need_span(first, last, self.held_many)
        return self.reckoned(first, last, 0, self.held_far)

    def table_row(self, begin):
        return [self.reckoned_stretch(begin, end) for end in range(begin, self.held_far + 1)]

    def table(self):
        return [self.table_row(begin) for begin in range(self.held_far + 1)]

    def sliding(self, width):
        need_place(width, 0, self.held_far)
        return [self.reckoned_stretch(begin, begin + width) for begin in range(self.held_far - width + 1)]

    def gains(self, begin):
        need_place(begin, 0, self.held_far)
        row = self.table_row(begin)
        return [begin + width for width in range(len(row) - 1) if row[width + 1] > row[width]]

    def losses(self, end):
        need_place(end, 0, self.held_far)
        column = [self.reckoned_stretch(begin, end) for begin in range(end + 1)]
        return [begin for begin in range(end) if column[begin] > column[begin + 1]]

    def least_end(self, begin, length):
        for end in range(begin, self.held_far + 1):
            if self.reckoned_stretch(begin, end) >= length:
                return end
        return None

    def tightest(self, length):
        need_place(length, 0, MOST_LINES)
        found = []
        for begin in range(self.held_far + 1):
            end = self.least_end(begin, length)
            if end is None:
                continue
            # A stretch has no less than those within it, so the two that are shorter by one tell of all.
            if begin == end or self.reckoned_stretch(begin + 1, end) < length:
                found.append((begin, end))
        return found

    def shortest(self, length):
        # A shortest stretch has none within it that reaches the length, so it is a tight one.
        found = self.tightest(length)
        return min(found, key=lambda span: (span[1] - span[0], span[0]), default=None)


def asks_of(side, top):
    return Asks(Board(side, top).lines(), len(side))
