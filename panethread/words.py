"""Words: rows, numbers, pairs, heaps and changes, each thing of a kind written as just one word, and read back."""

from panethread.changes import is_changes, need_changes
from panethread.errors import NoWords
from panethread.rows import is_row, need_row

NOTHING = "-"
FIGURES = "0123456789"
MOST_FIGURES = 4
MOST_LINE = 400
MARKS = {"keep": "=", "change": "!", "out": "<", "in": ">"}
MARKED = {"=": "keep", "!": "change", "<": "out", ">": "in"}


def listed(parts):
    return NOTHING if len(parts) == 0 else ",".join(parts)


def tuple_word(numbers):
    return ":".join([str(number) for number in numbers])


def row_word(row):
    need_row(row)
    return NOTHING if row == "" else row


def numbers_word(numbers):
    return listed([str(number) for number in numbers])


def tuples_word(tuples):
    return listed([tuple_word(numbers) for numbers in tuples])


def pairs_word(pairs):
    return tuples_word(pairs)


def heaps_word(heaps):
    return NOTHING if len(heaps) == 0 else "/".join([pairs_word(heap) for heap in heaps])


def change_word(change):
    return MARKS[change[0]] + "".join(change[1:])


def changes_word(changes):
    need_changes(changes)
    return listed([change_word(change) for change in changes])


def need_word(right, word):
    if not right:
        raise NoWords(word)


def is_number_word(word):
    if not 1 <= len(word) <= MOST_FIGURES or not all([sign in FIGURES for sign in word]):
        return False
    return len(word) == 1 or word[0] != "0"


def is_pair_word(word):
    numbers = word.split(":")
    return len(numbers) == 2 and all([is_number_word(number) for number in numbers])


def parts_of(word):
    need_word(isinstance(word, str), word)
    return [] if word == NOTHING else word.split(",")


def pair_read(word):
    # word is a pair's word.
    numbers = word.split(":")
    return (int(numbers[0]), int(numbers[1]))


def read_row(word):
    need_word(word == NOTHING or (is_row(word) and word != ""), word)
    return "" if word == NOTHING else word


def read_number(word):
    need_word(isinstance(word, str) and is_number_word(word), word)
    return int(word)


def read_numbers(word):
    parts = parts_of(word)
    need_word(all([is_number_word(part) for part in parts]), word)
    return [int(part) for part in parts]


def read_pairs(word):
    parts = parts_of(word)
    need_word(all([is_pair_word(part) for part in parts]), word)
    return [pair_read(part) for part in parts]


def heaps_parted(word):
    need_word(isinstance(word, str), word)
    return [] if word == NOTHING else [heap.split(",") for heap in word.split("/")]


def read_heaps(word):
    heaps = heaps_parted(word)
    # A heap without pairs has no word, so the word of no heaps is none of a heap.
    need_word(all([all([is_pair_word(part) for part in heap]) for heap in heaps]), word)
    return [[pair_read(part) for part in heap] for heap in heaps]


def change_read(part):
    # Of a part that is no change's word a tuple comes that is no change.
    return tuple([MARKED.get(part[:1], "")] + list(part[1:]))


def read_changes(word):
    changes = [change_read(part) for part in parts_of(word)]
    need_word(is_changes(changes), word)
    return changes


def words_of(line):
    need_word(isinstance(line, str) and len(line) <= MOST_LINE, line)
    need_word(all([" " <= sign <= "~" for sign in line]), line)
    words = line.split(" ")
    need_word("" not in words, line)
    return words
