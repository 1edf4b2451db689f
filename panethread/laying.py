"""Steps that cross neighbours, and turnings laid together."""

from panethread.errors import NoSteps, Unlike
from panethread.kinds import MOST_LINES, is_within, need_place
from panethread.turnings import need_turning, opposite, straight

MOST_STEPS = 6000


def need_steps(many, thing):
    if not isinstance(thing, list) or len(thing) > MOST_STEPS:
        raise NoSteps(thing)
    if not all([is_within(step, 0, many - 2) for step in thing]):
        raise NoSteps(thing)


def do_steps(begins, steps):
    # begins tells by each end the line there and is changed; told is which steps did something.
    working = []
    for place, step in enumerate(steps):
        lesser = begins[step]
        greater = begins[step + 1]
        if lesser < greater:
            begins[step] = greater
            begins[step + 1] = lesser
            working.append(place)
    return working


def by_steps(many, steps):
    need_place(many, 0, MOST_LINES)
    need_steps(many, steps)
    begins = straight(many)
    do_steps(begins, steps)
    return opposite(begins)


def working_steps(many, steps):
    need_place(many, 0, MOST_LINES)
    need_steps(many, steps)
    return do_steps(straight(many), steps)


def steps_of(turning):
    begins = opposite(turning)
    undone = []
    # Sorting takes back one crossing a step; the same steps from the last to the first make them.
    for place in range(1, len(begins)):
        step = place - 1
        while step >= 0 and begins[step] > begins[step + 1]:
            greater = begins[step]
            begins[step] = begins[step + 1]
            begins[step + 1] = greater
            undone.append(step)
            step -= 1
    return list(reversed(undone))


def need_alike(one, other):
    need_turning(one)
    need_turning(other)
    if len(one) != len(other):
        raise Unlike(len(one), len(other))


def laid(one, other):
    need_alike(one, other)
    begins = opposite(one)
    do_steps(begins, steps_of(other))
    return opposite(begins)


def middle(one, other, begin, end):
    need_alike(one, other)
    need_place(begin, 0, len(one))
    need_place(end, 0, len(one))
    begins = opposite(one)
    # The sum is taken as 0 at the middle 0: only where it is least matters.
    total = 0
    least = 0
    best = 0
    for place in range(len(one)):
        if begins[place] >= begin:
            total += 1
        if other[place] < end:
            total -= 1
        if total < least:
            least = total
            best = place + 1
    return best
