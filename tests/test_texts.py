import random
import unittest

from allparts.errors import NoBook, NoTable, PartError
from allparts.machine import Machine
from allparts.texts import read_book, read_table, show_book, show_table
from tests import looked
from tests.own import hold_own

NO_TEXTS = (None, True, False, 0, 1, 1.5, b"", b"a", b"0 0 -", [], ["a"], [""], ["0 0 -"], (), ("a",), {}, {"a": 1}, object())

MOST = 999999999

# Lists of a table's form, but the tables of no book.
NO_BOOKS_TABLES = (
    [(0, 0, 0, ())],
    [(1, 0, None, ())],
    [(0, 0, None, (("a", 0),))],
    [(0, 0, None, (("a", 1),))],
    [(5, 3, 7, (("b", 12), ("x", 0)))],
    [(MOST, MOST, MOST, (("z", MOST),))],
    [(0, 0, None, ())] * 2,
    [(0, 0, None, ())] * 300,
    [(1, 1, 0, ()), (0, 0, None, ())],
    [(10, 100, 1000, (("a", 10), ("m", 100), ("z", 1000)))] * 3,
    [(0, 0, None, tuple((sign, number) for number, sign in enumerate(looked.LETTERS)))] * 40,
)

GOOD_LINES = ("0 0 -", "0 0 - a:0", "12 30 4 b:7 z:100", f"{MOST} {MOST} {MOST} a:{MOST}", "1 1 0", "0 0 0 a:1 b:1")

NO_NUMBERS = (
    "", "00", "01", "007", "+0", "+1", "-0", "-1", "--", "1-", "1000000000", "0000000000", "1" * 60, "a", "A", "1a", "1.0",
    "1_0", "0x1", "1e1", ".", ":", "1:", "1,2", "None", "\t1", "1\t",
)

NO_WAYS = (
    "", "a", "a:", ":1", ":", "1", "1:a", "ab:1", "aa:1", "A:1", "Z:1", "1:1", "-:1", ".:1", "a::1", "a:1:", "a:1:1", "a1", "a=1",
    "a:-", "a:-1", "a:+1", "a:01", "a:00", "a:1000000000", "a:b", "a:A", "a:1a", "a: ", " a:1", "a: 1", "a :1", "a:1 ", "a:1  b:1",
    "{:1", "`:1", "b:1 a:1", "a:1 a:1", "a:1 a:2", "a:1 c:1 b:1", "a:1 b:1 a:1", "b:1 b:1 c:1", "a:1,b:1", "a:1 B:1", "a:1 b", "-",
)


class Books(unittest.TestCase):
    def test_some_by_hand(self):
        for book, text in (
            ([], "."),
            ([""], "-"),
            (["", ""], "- -"),
            (["a"], "a"),
            (["abb", "", "b"], "abb - b"),
            (["", "z"], "- z"),
            ([""] * 8, "- - - - - - - -"),
            (["a" * 120], "a" * 120),
        ):
            self.assertEqual(show_book(book), text)
            self.assertEqual(read_book(text), book)

    def test_there_and_back(self):
        for book in looked.small_books() + looked.great_books():
            text = show_book(book)
            self.assertIs(type(text), str)
            self.assertEqual(text, " ".join(text or "-" for text in book) or ".")
            told = read_book(text)
            self.assertIs(type(told), list)
            self.assertEqual(told, book)
            self.assertEqual({type(text) for text in told} - {str}, set())

    def test_each_number_of_texts(self):
        for many in range(1, 9):
            for text in ("", "a", "ab", "a" * (120 // many)):
                book = [text] * many
                self.assertEqual(read_book(show_book(book)), book)

    def refused(self, thing):
        with self.assertRaises(PartError, msg=thing) as caught:
            read_book(thing)
        self.assertIs(type(caught.exception), NoBook, thing)

    def test_more_than_a_book_may_have(self):
        for text in ("- " * 8 + "-", "a " * 8 + "a", "- " * 299 + "-", "a " * 7 + "a -", " ".join(["ab"] * 9)):
            self.refused(text)
        for text in ("a" * 121, "- " + "a" * 121, "a" * 60 + " " + "b" * 61, ("a" * 15 + " ") * 7 + "a" * 16, "a" * 120 + " - b"):
            self.refused(text)
        for text in ("a" * 200, "a" * 201, "a" * 20000, "- " * 9999 + "-", "." * 20000, " " * 20000, "-" * 20000):
            self.refused(text)

    def test_what_just_fits_is_read(self):
        for text in (" ".join("-" * 8), "a" * 120, "a" * 60 + " - " + "b" * 60, " ".join(["a" * 15] * 8), "a" * 120 + " - -"):
            self.assertEqual(len(read_book(text)), text.count(" ") + 1)

    def test_blanks(self):
        for text in ("", " ", "  ", " a", "a ", " a ", "a  b", "a   b", " -", "- ", "-  -", " .", ". ", "a b ", " a b", "a\tb", "a\t"):
            self.refused(text)

    def test_points_and_hyphens(self):
        for text in ("..", ". .", ". a", "a .", "a.", ".a", ". -", "- .", "-.", ".-", "--", "a-", "-a", "- --", "a -b", "a- b", "---"):
            self.refused(text)

    def test_other_signs(self):
        for text in ("A", "Z", "aB", "a B", "1", "0", "a1", "a 1", "a\n", "\na", "a\nb", "\n", "-\n", ".\n", "a,b", "{", "`", "~", "a_b",
                     "\u00e4", "a\u03b1", "\u2013", "\uff41", "[]", "['a']"):
            self.refused(text)

    def test_no_text(self):
        for thing in NO_TEXTS:
            self.refused(thing)

    def test_own(self):
        for text in (".", "-", "abb - b"):
            hold_own(self, lambda: read_book(text))
        book = ["abb", "", "b"]
        text = show_book(book)
        self.assertEqual(book, ["abb", "", "b"])
        book[0] = "z"
        self.assertEqual(text, "abb - b")
        self.assertEqual(show_book(["abb", "", "b"]), "abb - b")


class Tables(unittest.TestCase):
    def test_some_by_hand(self):
        for table, text in (
            ([(0, 0, None, ())], "0 0 -"),
            ([(0, 0, None, (("a", 1),)), (1, 1, 0, ())], "0 0 - a:1\n1 1 0"),
            (Machine(["abb"]).table(), "0 0 - a:1 b:2\n1 1 0 b:3\n1 1 0 b:4\n2 2 2 b:4\n2 3 2"),
            ([(12, 345, 67, (("a", 89), ("z", 0)))], "12 345 67 a:89 z:0"),
            ([(MOST, MOST, MOST, (("m", MOST),))], "999999999 999999999 999999999 m:999999999"),
        ):
            self.assertEqual(show_table(table), text)
            self.assertEqual(read_table(text), table)

    def test_there_and_back_of_books(self):
        for book in looked.small_books() + looked.great_books():
            table = Machine(book).table()
            text = show_table(table)
            self.assertIs(type(text), str)
            self.assertEqual(read_table(text), table, book)

    def test_there_and_back_of_no_books(self):
        for table in NO_BOOKS_TABLES:
            self.assertEqual(read_table(show_table(table)), table)

    def test_there_and_back_by_chance(self):
        for seed in range(200):
            chance = random.Random(seed)
            table = []
            for stand in range(chance.randint(1, 12)):
                numbers = [chance.randrange(10 ** chance.randint(1, 9)) for number in range(30)]
                signs = sorted(chance.sample(looked.LETTERS, chance.randint(0, 5)))
                link = chance.choice([None, numbers[2]])
                table.append((numbers[0], numbers[1], link, tuple(zip(signs, numbers[3:]))))
            self.assertEqual(read_table(show_table(table)), table)

    def test_the_form_of_a_written_table(self):
        for book in looked.small_books()[::10] + looked.great_books():
            lines = []
            for shortest, longest, link, ways in Machine(book).table():
                line = "%d %d %s" % (shortest, longest, "-" if link is None else link)
                lines.append(line + "".join(" %s:%d" % way for way in ways))
            self.assertEqual(show_table(Machine(book).table()), "\n".join(lines))

    def test_kinds(self):
        for text in GOOD_LINES + ("0 0 -\n1 2 0 a:1 b:2",):
            told = read_table(text)
            self.assertIs(type(told), list)
            for row in told:
                self.assertIs(type(row), tuple)
                self.assertEqual([type(row[0]), type(row[1]), type(row[3])], [int, int, tuple])
                self.assertIn(type(row[2]), (int, type(None)))
                for way in row[3]:
                    self.assertIs(type(way), tuple)
                    self.assertEqual([type(thing) for thing in way], [str, int])

    def test_a_table_of_more_than_300_stands_is_written(self):
        table = [(0, 0, None, ())] * 301
        self.assertEqual(show_table(table), "\n".join(["0 0 -"] * 301))

    def test_own(self):
        for text in GOOD_LINES:
            hold_own(self, lambda: read_table(text))
        table = Machine(["ab"]).table()
        before = list(table)
        text = show_table(table)
        self.assertEqual(table, before)
        table.clear()
        self.assertEqual(text, show_table(before))
        self.assertEqual(read_table(text), before)


class NoTables(unittest.TestCase):
    def refused(self, thing, line):
        with self.assertRaises(PartError, msg=thing) as caught:
            read_table(thing)
        self.assertIs(type(caught.exception), NoTable, thing)
        self.assertEqual(caught.exception.line, line, thing)
        self.assertIs(type(caught.exception.line), int)

    def refused_everywhere(self, bad):
        """The bad line alone, behind good ones, amid good ones, and ahead of other bad ones."""
        for ahead in (0, 1, 7, 299):
            lines = [GOOD_LINES[number % len(GOOD_LINES)] for number in range(ahead)]
            self.refused("\n".join(lines + [bad]), ahead)
            self.refused("\n".join(lines + [bad, "0 0 -"]), ahead)
            self.refused("\n".join(lines + [bad, "", bad, "x"]), ahead)

    def test_good_lines_are_read(self):
        for line in GOOD_LINES:
            self.assertEqual(show_table(read_table(line)), line)
        self.assertEqual(show_table(read_table("\n".join(GOOD_LINES))), "\n".join(GOOD_LINES))

    def test_numbers_left_out(self):
        for bad in ("0", "0 0", "-", "0 -", "0 0 a:1", "0 a:1", "a:1", "0 - a:1", "0 0  a:1", " 0 -", "- 0 0", "0 - 0", "0 - -", "- - -"):
            self.refused_everywhere(bad)

    def test_numbers_that_are_none(self):
        for bad in NO_NUMBERS:
            for line in (f"{bad} 1 -", f"{bad} 1 0", f"1 {bad} -", f"1 {bad} 0", f"1 1 {bad}", f"1 {bad} - a:1", f"1 1 {bad} a:1"):
                self.refused_everywhere(line)
            self.refused_everywhere(f"1 1 0 a:{bad}")
            self.refused_everywhere(f"1 1 0 a:1 b:{bad} c:1")

    def test_figures_of_other_scripts(self):
        for bad in ("\u0661", "\uff11", "\u00b2", "1\u0661"):
            self.refused_everywhere(f"{bad} 1 -")
            self.refused_everywhere(f"1 1 {bad}")
            self.refused_everywhere(f"1 1 0 a:{bad}")

    def test_blanks(self):
        for bad in (" 0 0 -", "0 0 - ", "0  0 -", "0 0  -", "0 0 -  a:1", "0 0 - a:1 ", "0 0 - a:1  b:1", " ", "  ", "0\t0 -", "0 0 -\t"):
            self.refused_everywhere(bad)
        for bad in ("0 0 -\r", "\r", "0 0 -\x0b", "0 0 -\x0c1 1 0", "0 0 -\u20281 1 0", "0\u00a00 -"):
            self.refused_everywhere(bad)

    def test_ways_that_are_none(self):
        for bad in NO_WAYS:
            self.refused_everywhere(f"0 0 - {bad}")
            self.refused_everywhere(f"3 5 12 {bad}")
        for bad in ("a:1", "a", "b:2", "A:1", ""):
            self.refused_everywhere(f"0 0 - a:1 b:2 {bad}")

    def test_empty_lines(self):
        self.refused("", 0)
        self.refused("\n", 0)
        self.refused("\n0 0 -", 0)
        self.refused("0 0 -\n", 1)
        self.refused("0 0 -\n\n1 1 0", 1)
        self.refused("0 0 -\n1 1 0\n", 2)
        self.refused("0 0 -\n1 1 0\n\n", 2)
        self.refused_everywhere("")

    def test_300_lines_and_301(self):
        for line in GOOD_LINES:
            self.assertEqual(read_table("\n".join([line] * 300)), read_table(line) * 300)
        for many in (301, 302, 400):
            self.refused("\n".join(["0 0 -"] * many), 300)
        self.refused("\n".join(["0 0 -"] * 300) + "\n", 300)
        self.refused("\n".join(["0 0 -"] * 300 + ["x"]), 300)
        for ahead in (0, 1, 150, 298, 299):
            self.refused("\n".join(["0 0 -"] * ahead + ["x"] + ["0 0 -"] * (301 - ahead)), ahead)

    def test_texts_of_20000_signs(self):
        self.refused("\n" * 20000, 0)
        self.refused("1" * 20000, 0)
        self.refused("0 0 - " + "a:1 " * 4998 + "b:", 0)
        self.refused("0 0 -\n" * 3333, 300)
        table = [(MOST, MOST, MOST, (("a", MOST), ("b", MOST)))] * 300
        self.assertLessEqual(len(show_table(table)), 20000)
        self.assertEqual(read_table(show_table(table)), table)

    def test_no_text(self):
        for thing in NO_TEXTS:
            self.refused(thing, 0)

    def test_books_are_no_tables(self):
        for text in (".", "-", "a", "a b", "- -"):
            self.refused(text, 0)
