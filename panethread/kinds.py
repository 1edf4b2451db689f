"""What is a whole number, a letter, a sign, a stretch, a pair: asked by the other files, so that it is said once."""

from panethread.errors import NoLetter, NoPlace, NoSpan

LETTERS = "abcdefghijklmnopqrstuvwxyz"
POINT = "."
MOST_SIGNS = 48
MOST_LETTERS = 24
MOST_LINES = 96


def is_number(thing):
    # To Python True and False are ints; here they are no whole numbers.
    return isinstance(thing, int) and not isinstance(thing, bool)


def is_within(thing, low, high):
    return is_number(thing) and low <= thing <= high


def is_letter(thing):
    # The length goes first, since "in" lets by the empty text and longer pieces of the alphabet.
    return isinstance(thing, str) and len(thing) == 1 and thing in LETTERS


def is_sign(thing):
    return is_letter(thing) or thing == POINT


def is_span(begin, end, many):
    return is_within(begin, 0, many) and is_within(end, begin, many)


def is_pair(thing):
    return isinstance(thing, tuple) and len(thing) == 2 and is_number(thing[0]) and is_number(thing[1])


def need_place(thing, low, high):
    if not is_within(thing, low, high):
        raise NoPlace(thing)


def need_span(begin, end, many):
    if not is_span(begin, end, many):
        raise NoSpan(begin, end)


def need_sign(thing):
    if not is_sign(thing):
        raise NoLetter(thing)


def need_letter(thing):
    if not is_letter(thing):
        raise NoLetter(thing)
