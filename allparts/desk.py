"""The desk: it keeps a machine, is told rows of words, and answers each with a text."""

from allparts.books import is_word, places
from allparts.errors import NoNumber, NoRow, NoWord
from allparts.lacking import lacking
from allparts.machine import Machine
from allparts.order import number_of, part_at, unlike
from allparts.parted import parted
from allparts.pieces import pieces
from allparts.shared import often, once, shared
from allparts.texts import is_shown_number, is_shown_word, read_word, rise, show_book, show_table, show_word, show_words
from allparts.walks import stand_of, words

MOST_ROW_FIGURES = 60


def number_in(text):
    if not is_shown_number(text, MOST_ROW_FIGURES):
        raise NoNumber("what stands in the place of a number is none")
    return int(text)


def times_in(text):
    times = number_in(text)
    if times == 0:
        raise NoNumber("how often is told from 1 on")
    return times


def word_in(text):
    if not is_shown_word(text):
        raise NoWord("what stands in the place of a word is none")
    return read_word(text)


def letters_in(text):
    if text == "" or not is_word(text) or not rise(text):
        raise NoWord("letters are small letters that rise")
    return text


def or_point(thing):
    return "." if thing is None else str(thing)


def word_or_point(found):
    return "." if found is None else found[0]


def answer_begin(machine, things):
    return str(machine.begin())


def answer_grow(machine, things):
    machine.grow(things[0], things[1])
    return "ok"


def answer_book(machine, things):
    return show_book(machine.book())


def answer_stands(machine, things):
    return str(len(machine.table()))


def answer_table(machine, things):
    return show_table(machine.table())


def answer_unlike(machine, things):
    return str(unlike(machine.table()))


def answer_find(machine, things):
    found = places(machine.book(), things[0])
    if len(found) == 0:
        return "."
    return " ".join([f"{text}:{end}" for text, end in found])


def answer_count(machine, things):
    return str(len(places(machine.book(), things[0])))


def answer_stand(machine, things):
    return or_point(stand_of(machine.table(), things[0]))


def answer_words(machine, things):
    return show_words(words(machine.table(), things[0]))


def answer_part(machine, things):
    return or_point(part_at(machine.table(), things[0]))


def answer_number(machine, things):
    return or_point(number_of(machine.table(), things[0]))


def answer_shared(machine, things):
    return show_word(shared(machine.book(), things)[0])


def answer_often(machine, things):
    return word_or_point(often(machine.book(), things[0]))


def answer_once(machine, things):
    return word_or_point(once(machine.book()))


def answer_lacking(machine, things):
    return lacking(machine.book(), things[0])


def answer_pieces(machine, things):
    found = pieces(machine.table(), things[0])
    if found is None:
        return "."
    return show_words(found) if len(found) > 0 else "-"


def answer_parted(machine, things):
    found = parted(machine.book(), machine.table(), things[0], things[1])
    if found is None:
        return "."
    return " ".join([str(found[0]), show_word(found[1]), str(found[2])])


# By its first word, what answers a row, and what reads each of the words behind the first.
ROWS = {
    "begin": (answer_begin, ()),
    "grow": (answer_grow, (number_in, word_in)),
    "book": (answer_book, ()),
    "stands": (answer_stands, ()),
    "table": (answer_table, ()),
    "unlike": (answer_unlike, ()),
    "find": (answer_find, (word_in,)),
    "count": (answer_count, (word_in,)),
    "stand": (answer_stand, (word_in,)),
    "words": (answer_words, (number_in,)),
    "part": (answer_part, (number_in,)),
    "number": (answer_number, (word_in,)),
    "shared": (answer_shared, (number_in,)),
    "often": (answer_often, (times_in,)),
    "once": (answer_once, ()),
    "lacking": (answer_lacking, (letters_in,)),
    "pieces": (answer_pieces, (word_in,)),
    "parted": (answer_parted, (number_in, number_in)),
}


def readers_of(first, many):
    readers = ROWS[first][1]
    # This row alone has as many numbers as one likes, but for none.
    if first == "shared" and many > 0:
        readers = readers * many
    return readers


class Desk:
    def __init__(self):
        self.machine = Machine()

    def say(self, row):
        if not isinstance(row, str):
            raise NoRow("a row is a text")
        fields = row.split(" ")
        if fields[0] not in ROWS:
            raise NoRow("there is no row with this first word")
        readers = readers_of(fields[0], len(fields) - 1)
        if len(readers) != len(fields) - 1:
            raise NoRow("this row has another number of words")
        things = [reader(field) for reader, field in zip(readers, fields[1:])]
        answer = ROWS[fields[0]][0]
        return answer(self.machine, things)
