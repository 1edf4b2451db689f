"""What a desk answers to the questions of its two rows, each told as one text."""

from panethread.apart import apart_near
from panethread.asks import asks_of
from panethread.boards import Board
from panethread.costs import Costs, changes_of
from panethread.near import near
from panethread.rings import Ring
from panethread.twice import twice
from panethread.windows import window_paper
from panethread.words import changes_word, heaps_word, numbers_word, pairs_word, row_word, tuples_word

NONE = "none"


def spaced(numbers):
    return " ".join([str(number) for number in numbers])


def told_rows(side, top, numbers):
    return row_word(side) + " " + row_word(top)


def told_lines(side, top, numbers):
    return numbers_word(Board(side, top).lines())


def told_window(side, top, numbers):
    return str(asks_of(side, top).window(numbers[0], numbers[1], numbers[2], numbers[3]))


def told_stretch(side, top, numbers):
    return str(asks_of(side, top).stretch(numbers[0], numbers[1]))


def told_beginning(side, top, numbers):
    return str(asks_of(side, top).beginning(numbers[0], numbers[1]))


def told_ending(side, top, numbers):
    return str(asks_of(side, top).ending(numbers[0], numbers[1]))


def told_across(side, top, numbers):
    return str(asks_of(side, top).across(numbers[0], numbers[1]))


def told_shortest(side, top, numbers):
    span = asks_of(side, top).shortest(numbers[0])
    return NONE if span is None else spaced(span)


def told_tightest(side, top, numbers):
    return pairs_word(asks_of(side, top).tightest(numbers[0]))


def paper_asked(side, top, numbers):
    return window_paper(side, top, numbers[0], numbers[1], numbers[2], numbers[3])


def told_thread(side, top, numbers):
    return pairs_word(paper_asked(side, top, numbers)[0])


def told_paper(side, top, numbers):
    paper = paper_asked(side, top, numbers)
    return pairs_word(paper[0]) + " " + heaps_word(paper[1])


def told_cost(side, top, numbers):
    return str(Costs(side, top).of(numbers[0], numbers[1]))


def told_best(side, top, numbers):
    return spaced(Costs(side, top).best())


def told_changes(side, top, numbers):
    return changes_word(changes_of(side, top))


def told_near(side, top, numbers):
    return tuples_word(near(side, top, numbers[0]))


def told_apart(side, top, numbers):
    return str(apart_near(side, top, numbers[0])[0])


def told_ring(side, top, numbers):
    return spaced(Ring(side, top).best())


def told_openings(side, top, numbers):
    return numbers_word(Ring(side, top).lengths())


def told_twice(side, top, numbers):
    said = twice(side)
    return str(said[0]) + " " + numbers_word(said[1]) + " " + numbers_word(said[2])


# By its first word each question's many numbers, and what tells the answer.
QUESTIONS = {
    "see": (0, told_rows),
    "lines": (0, told_lines),
    "window": (4, told_window),
    "stretch": (2, told_stretch),
    "beginning": (2, told_beginning),
    "ending": (2, told_ending),
    "across": (2, told_across),
    "shortest": (1, told_shortest),
    "tightest": (1, told_tightest),
    "thread": (4, told_thread),
    "paper": (4, told_paper),
    "cost": (2, told_cost),
    "best": (0, told_best),
    "changes": (0, told_changes),
    "near": (1, told_near),
    "apart": (1, told_apart),
    "ring": (0, told_ring),
    "openings": (0, told_openings),
    "twice": (0, told_twice),
}


def is_question(word):
    return word in QUESTIONS


def numbers_asked(word):
    return QUESTIONS[word][0]


def answer(word, side, top, numbers):
    tells = QUESTIONS[word][1]
    return tells(side, top, numbers)
