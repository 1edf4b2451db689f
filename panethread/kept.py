"""A kept row: a side that changes, against a top, kept as a tree of pieces of which each deed makes few anew."""

from panethread.boards import Board
from panethread.errors import NoPlace, TooLong
from panethread.kinds import MOST_SIGNS, is_number, need_place, need_sign, need_span
from panethread.pieces import lines_over
from panethread.rows import need_row, need_rows
from panethread.turnings import straight


class Node:
    # A node never changes, so that twins may share it.
    def __init__(self, mark, lines, halves):
        self.mark = mark
        self.held_lines = lines
        self.halves = halves
        self.many = sum([half.many for half in halves]) if halves else 1
        self.tall = max([half.tall + 1 for half in halves], default=0)


def nodes_of(node):
    # A node goes ahead of its parts, and so the longer one ahead of those with the same begin.
    if node is None:
        return []
    found = [node]
    for half in node.halves:
        found.extend(nodes_of(half))
    return found


def told_pieces(node, first):
    last = first + node.many
    if not node.halves:
        return [(node.mark, first, last, None, None)]
    upper = node.halves[0]
    lower = node.halves[1]
    told = [(node.mark, first, last, upper.mark, lower.mark)]
    return told + told_pieces(upper, first) + told_pieces(lower, first + upper.many)


def covering(node, begin, first, last):
    end = begin + node.many
    if end <= first or last <= begin:
        return []
    # A strip holds one sign alone, so it is within here, and only nodes with parts are looked into.
    if first <= begin and end <= last:
        return [node]
    upper = node.halves[0]
    return covering(upper, begin, first, last) + covering(node.halves[1], begin + upper.many, first, last)


def laid_lines(nodes, far):
    if not nodes:
        return straight(far)
    lines = list(nodes[0].held_lines)
    for node in nodes[1:]:
        lines = lines_over(lines, node.held_lines, far)
    return lines


class Kept:
    def __init__(self, side, top):
        need_rows(side, top)
        self.held_side = side
        self.held_top = top
        # Numbers only rise, so those above the one that was last ahead of a deed were made by it.
        self.last_mark = 0
        self.mark_before = 0
        self.held_root = self.built(side)

    def side(self):
        return self.held_side

    def top(self):
        return self.held_top

    def lines(self):
        return self.between(0, len(self.held_side))

    def height(self):
        return 0 if self.held_root is None else self.held_root.tall

    def made(self):
        return len([node for node in nodes_of(self.held_root) if node.mark > self.mark_before])

    def pieces(self):
        return [] if self.held_root is None else told_pieces(self.held_root, 0)

    def piece_lines(self, number):
        # True is no number of a piece, though it equals 1.
        if is_number(number):
            for node in nodes_of(self.held_root):
                if node.mark == number:
                    return list(node.held_lines)
        raise NoPlace(number)

    def covering_nodes(self, first, last):
        need_span(first, last, len(self.held_side))
        return [] if self.held_root is None else covering(self.held_root, 0, first, last)

    def cover(self, first, last):
        return [node.mark for node in self.covering_nodes(first, last)]

    def between(self, first, last):
        return laid_lines(self.covering_nodes(first, last), len(self.held_top))

    def fresh_mark(self):
        self.last_mark += 1
        return self.last_mark

    def strip_node(self, sign):
        return Node(self.fresh_mark(), Board(sign, self.held_top).lines(), ())

    def joined(self, upper, lower):
        lines = lines_over(upper.held_lines, lower.held_lines, len(self.held_top))
        return Node(self.fresh_mark(), lines, (upper, lower))

    def built(self, side):
        if side == "":
            return None
        if len(side) == 1:
            return self.strip_node(side)
        cut = len(side) // 2
        return self.joined(self.built(side[:cut]), self.built(side[cut:]))

    def evened(self, upper, lower):
        # The heights of the two differ by two at most: a deed changes the height of one part by one at most.
        if upper.tall > lower.tall + 1:
            return self.evened_down(upper.halves, lower)
        if lower.tall > upper.tall + 1:
            return self.evened_up(upper, lower.halves)
        return self.joined(upper, lower)

    def evened_down(self, halves, lower):
        near = halves[1]
        if halves[0].tall >= near.tall:
            return self.joined(halves[0], self.joined(near, lower))
        return self.joined(self.joined(halves[0], near.halves[0]), self.joined(near.halves[1], lower))

    def evened_up(self, upper, halves):
        near = halves[0]
        if halves[1].tall >= near.tall:
            return self.joined(self.joined(upper, near), halves[1])
        return self.joined(self.joined(upper, near.halves[0]), self.joined(near.halves[1], halves[1]))

    def with_put(self, node, place, sign):
        if not node.halves:
            fresh = self.strip_node(sign)
            return self.joined(fresh, node) if place == 0 else self.joined(node, fresh)
        upper = node.halves[0]
        lower = node.halves[1]
        if place <= upper.many:
            return self.evened(self.with_put(upper, place, sign), lower)
        return self.evened(upper, self.with_put(lower, place - upper.many, sign))

    def without(self, node, place):
        if not node.halves:
            return None
        upper = node.halves[0]
        lower = node.halves[1]
        if place < upper.many:
            rest = self.without(upper, place)
            return lower if rest is None else self.evened(rest, lower)
        rest = self.without(lower, place - upper.many)
        return upper if rest is None else self.evened(upper, rest)

    def with_change(self, node, place, sign):
        if not node.halves:
            return self.strip_node(sign)
        upper = node.halves[0]
        lower = node.halves[1]
        if place < upper.many:
            return self.joined(self.with_change(upper, place, sign), lower)
        return self.joined(upper, self.with_change(lower, place - upper.many, sign))

    def put(self, place, sign):
        need_place(place, 0, len(self.held_side))
        need_sign(sign)
        if len(self.held_side) >= MOST_SIGNS:
            raise TooLong(len(self.held_side) + 1)
        self.mark_before = self.last_mark
        if self.held_root is None:
            self.held_root = self.strip_node(sign)
        else:
            self.held_root = self.with_put(self.held_root, place, sign)
        self.held_side = self.held_side[:place] + sign + self.held_side[place:]

    def drop(self, place):
        need_place(place, 0, len(self.held_side) - 1)
        self.mark_before = self.last_mark
        self.held_root = self.without(self.held_root, place)
        gone = self.held_side[place]
        self.held_side = self.held_side[:place] + self.held_side[place + 1:]
        return gone

    def change(self, place, sign):
        need_place(place, 0, len(self.held_side) - 1)
        need_sign(sign)
        self.mark_before = self.last_mark
        self.held_root = self.with_change(self.held_root, place, sign)
        gone = self.held_side[place]
        self.held_side = self.held_side[:place] + sign + self.held_side[place + 1:]
        return gone

    def retop(self, top):
        need_row(top)
        self.mark_before = self.last_mark
        self.held_top = top
        self.held_root = self.built(self.held_side)

    def twin(self):
        other = Kept("", "")
        other.held_side = self.held_side
        other.held_top = self.held_top
        other.last_mark = self.last_mark
        other.mark_before = self.mark_before
        other.held_root = self.held_root
        return other
