import inspect
import unittest

from allparts import books, desk, lacking, links, machine, order, parted, pieces, shared, texts, walks

FUNCTIONS = {
    books: {
        "is_word": "(thing)",
        "is_book": "(thing)",
        "signs_in": "(book)",
        "places": "(book, word)",
        "parts_of": "(book, long)",
    },
    walks: {
        "walk": "(table, word)",
        "stand_of": "(table, word)",
        "longest": "(table, stand)",
        "shortest": "(table, stand)",
        "words": "(table, stand)",
    },
    links: {
        "chain": "(table, stand)",
        "kids": "(table, stand)",
        "places_by": "(book, table)",
        "counts": "(book, table)",
        "firsts": "(book, table)",
    },
    order: {
        "unlike": "(table)",
        "counted": "(table, long)",
        "part_at": "(table, number)",
        "number_of": "(table, word)",
    },
    shared: {
        "texts_by": "(book, table)",
        "shared": "(book, some)",
        "often": "(book, times)",
        "once": "(book)",
    },
    lacking: {
        "lacking": "(book, letters)",
        "full": "(book, letters)",
    },
    pieces: {
        "matches": "(table, word)",
        "pieces": "(table, word)",
    },
    parted: {
        "rests": "(book, table, stand)",
        "parted": "(book, table, one, other)",
    },
    texts: {
        "show_book": "(book)",
        "show_table": "(table)",
        "read_book": "(text)",
        "read_table": "(text)",
    },
    machine.Machine: {
        "__init__": "(self, book=None)",
        "begin": "(self)",
        "grow": "(self, text, word)",
        "book": "(self)",
        "table": "(self)",
    },
    desk.Desk: {
        "__init__": "(self)",
        "say": "(self, row)",
    },
}


class Interface(unittest.TestCase):
    def test_names_and_arguments(self):
        for holder, functions in FUNCTIONS.items():
            for name, arguments in functions.items():
                self.assertEqual(str(inspect.signature(getattr(holder, name))), arguments, name)
