"""Books and tables as texts, written and read."""

from allparts.books import has_only_signs, is_book, is_word
from allparts.errors import NoBook, NoTable

MOST_LINES = 300
MOST_FIGURES = 9


def show_word(word):
    return word if word != "" else "-"


def show_words(some):
    return " ".join([show_word(word) for word in some])


def show_book(book):
    return show_words(book) if len(book) > 0 else "."


def show_table(table):
    return "\n".join([show_row(row) for row in table])


def show_row(row):
    link = "-" if row[2] is None else str(row[2])
    ways = [f"{sign}:{number}" for sign, number in row[3]]
    return " ".join([str(row[0]), str(row[1]), link] + ways)


def is_shown_word(text):
    return text == "-" or (text != "" and is_word(text))


def is_shown_number(text, most):
    # A nought ahead of other figures is none of a number's own.
    if not 1 <= len(text) <= most or (text[0] == "0" and len(text) > 1):
        return False
    return all(["0" <= figure <= "9" for figure in text])


def rise(signs):
    return list(signs) == sorted(set(signs))


def read_word(text):
    return text if text != "-" else ""


def read_book(text):
    if not isinstance(text, str):
        raise NoBook("a book is read from a text alone")
    if text == ".":
        return []
    fields = text.split(" ")
    book = [read_word(field) for field in fields]
    if not all([is_shown_word(field) for field in fields]) or not is_book(book):
        raise NoBook("this is the text of no book")
    return book


def read_table(text):
    if not isinstance(text, str):
        raise NoTable(0)
    table = []
    for number, line in enumerate(text.split("\n")):
        if number >= MOST_LINES or not is_shown_row(line):
            raise NoTable(number)
        table.append(read_row(line))
    return table


def is_shown_row(line):
    fields = line.split(" ")
    ways = fields[3:]
    if len(fields) < 3 or not all([is_shown_way(way) for way in ways]):
        return False
    numbers = fields[:2] if fields[2] == "-" else fields[:3]
    return all([is_shown_number(number, MOST_FIGURES) for number in numbers]) and rise([way[0] for way in ways])


def is_shown_way(field):
    return has_only_signs(field[:1]) and field[1:2] == ":" and is_shown_number(field[2:], MOST_FIGURES)


def read_row(line):
    fields = line.split(" ")
    link = None if fields[2] == "-" else int(fields[2])
    ways = tuple([(way[0], int(way[2:])) for way in fields[3:]])
    return (int(fields[0]), int(fields[1]), link, ways)
