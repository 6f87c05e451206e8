import random
import unittest

from allparts.desk import Desk
from allparts.errors import NoNumber, NoRow, NoStand, NoText, NoWord, PartError, TooMany
from tests import looked

FIRST_WORDS = """begin grow book stands table unlike find count stand words part number shared often once lacking pieces
parted""".split()

# Asked of any desk, these change nothing.
ROWS_THAT_ASK = ("book", "stands", "table", "unlike", "once", "find -", "count -", "stand -", "words 0", "part 0", "number a",
                 "often 1", "lacking ab", "pieces aba", "parted 0 0")

NO_NUMBERS = ("", "-", ".", "a", "A", "00", "01", "007", "+1", "-1", "+0", "-0", "1.", "1.0", "1a", "1_0", "0x1", "1e1", "None",
              "1\n", "\n1", "\t1", "\u0661", "\uff11", "1" * 61, "1" + "0" * 60, "0" * 60, "0" * 61, "1" * 19000)

NO_WORDS = ("", "--", "a-", "-a", ".", "A", "aB", "1", "0", "a1", "a.", "a\n", "\na", "\n", "a\tb", "`", "{", "~", "\u00e4", "\uff41",
            "a" * 201, "a" * 202, "a" * 19000, "a" * 200 + "-")

NO_LETTERS = NO_WORDS + ("-", "ba", "aa", "aab", "abb", "acb", "abca", "zy", looked.LETTERS + "a", looked.LETTERS[::-1])


def desk_of(book):
    desk = Desk()
    for number, text in enumerate(book):
        desk.say("begin")
        desk.say(f"grow {number} {text or '-'}")
    return desk


def shown(word):
    return "." if word is None else word or "-"


def shown_table(book):
    lines = []
    for shortest, longest, link, ways in looked.table(book):
        line = [str(shortest), str(longest), "-" if link is None else str(link)]
        lines.append(" ".join(line + [f"{sign}:{number}" for sign, number in ways]))
    return "\n".join(lines)


class Held(unittest.TestCase):
    def held(self, desk, row, answer):
        told = desk.say(row)
        self.assertIs(type(told), str, row)
        self.assertEqual(told, answer, (desk.say("book"), row))

    def refused(self, desk, row, error):
        before = [desk.say(row) for row in ROWS_THAT_ASK]
        with self.assertRaises(PartError, msg=row) as caught:
            desk.say(row)
        self.assertIs(type(caught.exception), error, row)
        self.assertEqual([desk.say(row) for row in ROWS_THAT_ASK], before, row)


class ByHand(Held):
    def test_without_texts(self):
        desk = Desk()
        for row, answer in (
            ("book", "."), ("stands", "1"), ("table", "0 0 -"), ("unlike", "0"),
            ("find -", "."), ("find a", "."), ("count -", "0"), ("count a", "0"), ("stand -", "0"), ("stand a", "."),
            ("words 0", "-"), ("part 0", "."), ("part 7", "."), ("number -", "."), ("number a", "."),
            ("often 1", "."), ("often 2", "."), ("once", "."), ("lacking a", "a"), ("lacking xyz", "x"),
            ("pieces -", "-"), ("pieces a", "."), ("parted 0 0", "."),
        ):
            self.held(desk, row, answer)
        self.refused(desk, "shared 0", NoText)
        self.refused(desk, "grow 0 a", NoText)
        self.refused(desk, "grow 0 -", NoText)
        self.refused(desk, "words 1", NoStand)
        self.refused(desk, "parted 0 1", NoStand)

    def test_of_empty_texts(self):
        desk = Desk()
        for row, answer in (
            ("begin", "0"), ("book", "-"), ("begin", "1"), ("book", "- -"), ("grow 1 -", "ok"), ("book", "- -"),
            ("stands", "1"), ("table", "0 0 -"), ("unlike", "0"),
            ("find -", "0:0 1:0"), ("find a", "."), ("count -", "2"), ("count a", "0"), ("stand -", "0"), ("stand z", "."),
            ("words 0", "-"), ("part 0", "."), ("number -", "."), ("number a", "."),
            ("shared 0", "-"), ("shared 1 0 1", "-"), ("often 1", "."), ("often 2", "."), ("once", "."), ("lacking bc", "b"),
            ("pieces -", "-"), ("pieces a", "."), ("parted 0 0", "."),
        ):
            self.held(desk, row, answer)
        self.refused(desk, "parted 0 1", NoStand)

    def test_of_texts(self):
        desk = Desk()
        for row, answer in (
            ("begin", "0"), ("grow 0 ab", "ok"), ("begin", "1"), ("begin", "2"), ("grow 2 b", "ok"), ("grow 0 b", "ok"),
            ("book", "abb - b"), ("stands", "5"), ("table", "0 0 - a:1 b:2\n1 1 0 b:3\n1 1 0 b:4\n2 2 2 b:4\n2 3 2"),
            ("unlike", "5"), ("find b", "0:2 0:3 2:1"), ("find -", "0:0 0:1 0:2 0:3 1:0 2:0 2:1"), ("find ba", "."),
            ("count b", "3"), ("count -", "7"), ("count ba", "0"), ("stand bb", "4"), ("stand -", "0"), ("stand ba", "."),
            ("words 0", "-"), ("words 1", "a"), ("words 4", "bb abb"), ("part 0", "a"), ("part 2", "abb"), ("part 4", "bb"),
            ("part 5", "."), ("number a", "0"), ("number bb", "4"), ("number -", "."), ("number ba", "."),
            ("shared 0", "abb"), ("shared 0 2", "b"), ("shared 2 0 2", "b"), ("shared 0 1", "-"), ("shared 1", "-"),
            ("often 1", "abb"), ("often 2", "b"), ("often 3", "b"), ("often 4", "."), ("once", "a"), ("lacking ab", "aa"),
            ("lacking b", "bbb"), ("lacking z", "z"), ("pieces abbab", "abb ab"), ("pieces b", "b"), ("pieces -", "-"),
            ("pieces abz", "."), ("parted 0 1", "0 - 0"), ("parted 1 0", "0 - 0"), ("parted 2 4", "0 b 2"), ("parted 4 2", "0 b 2"),
            ("parted 3 4", "0 - 4"), ("parted 4 4", "."),
        ):
            self.held(desk, row, answer)

    def test_numbers_of_sixty_figures(self):
        desk = desk_of(["abb", "b"])
        for number in ("9" * 60, "1" + "0" * 59, "1" * 60, "1" * 19):
            self.held(desk, f"part {number}", ".")
            self.held(desk, f"often {number}", ".")
            self.refused(desk, f"words {number}", NoStand)
            self.refused(desk, f"parted {number} 0", NoStand)
            self.refused(desk, f"parted 0 {number}", NoStand)
            self.refused(desk, f"parted {number} {number}", NoStand)
            self.refused(desk, f"shared 0 {number}", NoText)
            self.refused(desk, f"grow {number} a", NoText)

    def test_words_of_200_signs(self):
        desk = desk_of(["ab" * 60])
        word = "ab" * 100
        self.held(desk, f"find {word}", ".")
        self.held(desk, f"count {word}", "0")
        self.held(desk, f"stand {word}", ".")
        self.held(desk, f"number {word}", ".")
        self.held(desk, f"pieces {word}", "ab" * 60 + " " + "ab" * 40)
        self.held(desk_of(["a"]), "pieces " + "a" * 200, " ".join("a" * 200))
        self.refused(desk, f"grow 0 {word}", TooMany)


class AgainstLooking(Held):
    def asked_of_words(self, desk, book, words):
        found = looked.places_by_word(book)
        number = {word: k for k, group in enumerate(looked.stands(book)) for word in group}
        order = {word: k for k, word in enumerate(looked.parts_in_order(book))}
        for word in words:
            places = found.get(word, [])
            name = word or "-"
            self.held(desk, f"find {name}", " ".join(f"{text}:{end}" for text, end in places) or ".")
            self.held(desk, f"count {name}", str(len(places)))
            self.held(desk, f"stand {name}", str(number.get(word, ".")))
            self.held(desk, f"number {name}", str(order.get(word, ".")))
            pieces = looked.pieces(book, word)
            self.held(desk, f"pieces {name}", "." if pieces is None else " ".join(pieces) or "-")

    def asked_of_the_whole(self, desk, book):
        parts = looked.parts_in_order(book)
        self.held(desk, "book", " ".join(text or "-" for text in book) or ".")
        self.held(desk, "stands", str(len(looked.stands(book))))
        self.held(desk, "table", shown_table(book))
        self.held(desk, "unlike", str(len(parts)))
        once = looked.once(book)
        self.held(desk, "once", "." if once is None else once[0])
        for times in (1, 2, 3, 9, 1000):
            often = looked.often(book, times)
            self.held(desk, f"often {times}", "." if often is None else often[0])
        for letters in ("a", "b", "ab", "abc", "bz", "x"):
            self.held(desk, f"lacking {letters}", looked.lacking(book, letters))
        for number in (0, 1, len(parts) // 2, len(parts) - 1, len(parts), len(parts) + 1):
            if number >= 0:
                self.held(desk, f"part {number}", parts[number] if number < len(parts) else ".")

    def asked_of_numbers(self, desk, book, chance):
        groups = looked.stands(book)
        rests = looked.rests_by(book)
        for stand in chance.sample(range(len(groups)), min(len(groups), 6)):
            self.held(desk, f"words {stand}", " ".join(word or "-" for word in groups[stand]))
            other = chance.randrange(len(groups))
            parted = looked.parted(rests, stand, other)
            answer = "." if parted is None else " ".join([str(parted[0]), shown(parted[1]), str(parted[2])])
            self.held(desk, f"parted {stand} {other}", answer)
            self.held(desk, f"parted {other} {stand}", answer)
        for many in (1, 2, 3, 9):
            if book:
                some = [chance.randrange(len(book)) for number in range(many)]
                word = looked.shared(book, some)[0]
                self.held(desk, "shared " + " ".join(str(number) for number in some), shown(word))

    def test_small_books(self):
        words = looked.all_words("ab", 3) + ["abc", "cab", "z", "azb", "abba"]
        for seed, book in enumerate(looked.small_books()[::9]):
            desk = desk_of(book)
            self.asked_of_the_whole(desk, book)
            self.asked_of_words(desk, book, words)
            self.asked_of_numbers(desk, book, random.Random(seed))

    def test_great_books(self):
        for seed, book in enumerate(looked.great_books()):
            chance = random.Random(seed)
            desk = desk_of(book)
            self.asked_of_the_whole(desk, book)
            self.asked_of_words(desk, book, ["", book[0], "ab", "ba" * 100] + chance.sample(looked.parts_in_order(book), 4))
            self.asked_of_numbers(desk, book, chance)

    def test_in_any_weaving(self):
        for seed in range(40):
            chance = random.Random(seed)
            desk = Desk()
            book = []
            for step in range(12):
                if len(book) < 8 and (not book or chance.random() < 0.3):
                    self.held(desk, "begin", str(len(book)))
                    book.append("")
                else:
                    number = chance.randrange(len(book))
                    word = looked.chance_word(chance, "ab", 3)
                    self.held(desk, f"grow {number} {word or '-'}", "ok")
                    book[number] += word
                self.held(desk, "table", shown_table(book))
            self.asked_of_the_whole(desk, book)
            self.asked_of_numbers(desk, book, chance)

    def test_shared_by_many_numbers(self):
        desk = desk_of(["abc", "bc", "cbc"])
        self.held(desk, "shared " + " ".join(["1", "0", "2"] * 100), "bc")
        self.held(desk, "shared" + " 0" * 9000, "abc")


class Rows(Held):
    def setUp(self):
        self.desks = [Desk(), desk_of([""]), desk_of(["abb", "", "b"]), desk_of(["a" * 15] * 8)]

    def refused_by_each(self, row, error):
        for desk in self.desks:
            self.refused(desk, row, error)

    def test_no_text(self):
        for thing in (None, True, False, 0, 1, 1.5, b"begin", [], ["begin"], ("begin",), (), {}, {"begin": 1}, object(), Desk()):
            self.refused_by_each(thing, NoRow)

    def test_other_first_words(self):
        for row in ("", " ", "  ", "-", ".", "a", "0", "ok", "help", "end", "places a", "matches a", "full ab", "rests 0", "longest 0",
                    "shortest 0", "walk a", "chain 0", "kids 0", "counted 1", "begins", "begi", "book:", "begin\n", "\nbegin",
                    "begin\nbegin", "begin\tbegin", "find\ta", "often\n1", "say begin", "0 grow a", "a find", "x" * 20000):
            self.refused_by_each(row, NoRow)

    def test_great_letters_in_the_first_word(self):
        for first in FIRST_WORDS:
            for name in (first.upper(), first[0].upper() + first[1:], first[:-1] + first[-1].upper()):
                for behind in ("", " a", " 0", " 0 0", " 0 a"):
                    self.refused_by_each(name + behind, NoRow)

    def test_too_few_words(self):
        for row in ("grow", "grow 0", "grow a", "grow -", "find", "count", "stand", "words", "part", "number", "shared", "often",
                    "lacking", "pieces", "parted", "parted 0", "parted a"):
            self.refused_by_each(row, NoRow)

    def test_too_many_words(self):
        for row in ("begin", "book", "stands", "table", "unlike", "once"):
            for more in (" 0", " a", " -", " ", "  ", " 0 0", " " + row):
                self.refused_by_each(row + more, NoRow)
        for row in ("find", "count", "stand", "number", "lacking", "pieces"):
            for more in ("a b", "a ", " a", "A B", "a a a", "1 2", "  "):
                self.refused_by_each(f"{row} {more}", NoRow)
        for row in ("words", "part", "often"):
            for more in ("0 0", "0 ", " 0", "x y", "1 2 3", "  "):
                self.refused_by_each(f"{row} {more}", NoRow)
        for row in ("grow 0 a b", "grow 0 a ", "grow 0  a", "grow  0 a", "grow 0 0 a", "grow x Y z", "parted 0 0 0", "parted 0 0 ",
                    "parted 0  0", "parted  0 0", "parted a b c"):
            self.refused_by_each(row, NoRow)

    def test_a_blank_ahead(self):
        for row in ROWS_THAT_ASK + ("begin", "grow 0 a", "shared 0"):
            self.refused_by_each(" " + row, NoRow)
            self.refused_by_each("  " + row, NoRow)

    def test_words_without_signs_in_the_place_of_others(self):
        for row in ("find ", "count ", "stand ", "number ", "lacking ", "pieces ", "grow 0 "):
            self.refused_by_each(row, NoWord)
        for row in ("words ", "part ", "often ", "shared ", "shared  ", "shared  0", "shared 0 ", "shared 0  0", "parted  ", "parted 0 ",
                    "parted  0", "grow  a", "grow  "):
            self.refused_by_each(row, NoNumber)

    def test_no_words(self):
        for word in NO_WORDS:
            for row in ("find", "count", "stand", "number", "pieces"):
                self.refused_by_each(f"{row} {word}", NoWord)
            for number in ("0", "7", "8", "9" * 60):
                self.refused_by_each(f"grow {number} {word}", NoWord)

    def test_no_letters(self):
        for letters in NO_LETTERS:
            self.refused_by_each(f"lacking {letters}", NoWord)
        for letters in ("a", "z", "az", "mno", looked.LETTERS):
            self.assertEqual(Desk().say(f"lacking {letters}"), letters[0])

    def test_no_numbers(self):
        for number in NO_NUMBERS:
            for row in ("words", "part", "often", "shared"):
                self.refused_by_each(f"{row} {number}", NoNumber)
            self.refused_by_each(f"grow {number} a", NoNumber)
            for good in ("0", "9", "9" * 60):
                self.refused_by_each(f"parted {number} {good}", NoNumber)
                self.refused_by_each(f"parted {good} {number}", NoNumber)
                self.refused_by_each(f"shared {good} {number}", NoNumber)
                self.refused_by_each(f"shared {number} {good}", NoNumber)
                self.refused_by_each(f"shared {good} {number} {good}", NoNumber)
            self.refused_by_each(f"parted {number} {number}", NoNumber)

    def test_often_0(self):
        self.refused_by_each("often 0", NoNumber)

    def test_from_the_left(self):
        for number in ("", "-", "01", "x", "1" * 61):
            for word in ("", "A", "--", "1", "a" * 201):
                self.refused_by_each(f"grow {number} {word}", NoNumber)

    def test_no_text_ahead_of_too_many(self):
        for number in ("8", "9", "300", "9" * 60):
            for word in ("-", "a", "a" * 120, "a" * 121, "a" * 200):
                self.refused_by_each(f"grow {number} {word}", NoText)
        self.refused(self.desks[0], "grow 0 " + "a" * 121, NoText)
        self.refused(self.desks[2], "grow 3 " + "a" * 121, NoText)

    def test_too_many(self):
        full = self.desks[3]
        self.refused(full, "begin", TooMany)
        self.refused(full, "grow 0 a", TooMany)
        self.refused(full, "grow 7 " + "b" * 200, TooMany)
        self.held(full, "grow 7 -", "ok")
        desk = self.desks[1]
        self.refused(desk, "grow 0 " + "a" * 121, TooMany)
        self.held(desk, "grow 0 " + "a" * 119, "ok")
        self.refused(desk, "grow 0 bb", TooMany)
        self.held(desk, "grow 0 b", "ok")
        self.refused(desk, "grow 0 c", TooMany)
        self.held(desk, "book", "a" * 119 + "b")
        self.assertEqual([desk.say("begin") for text in range(7)], ["1", "2", "3", "4", "5", "6", "7"])
        self.refused(desk, "begin", TooMany)

    def test_shared_of_no_texts(self):
        for row in ("shared 8", "shared 0 8", "shared 8 0", "shared 0 8 0", "shared 300", "shared " + "9" * 60):
            self.refused_by_each(row, NoText)
        self.refused(self.desks[0], "shared 0", NoText)
        self.refused(self.desks[2], "shared 0 1 2 3", NoText)

    def test_no_stands(self):
        for desk in self.desks:
            many = int(desk.say("stands"))
            for number in (many, many + 1, 300, 10 ** 59):
                for row in (f"words {number}", f"parted {number} 0", f"parted 0 {number}", f"parted {number} {number}"):
                    self.refused(desk, row, NoStand)


class Desks(Held):
    def test_each_has_its_own_book(self):
        one = Desk()
        other = Desk()
        one.say("begin")
        one.say("grow 0 ab")
        self.held(other, "book", ".")
        self.held(other, "begin", "0")
        self.held(other, "grow 0 zz", "ok")
        self.held(one, "begin", "1")
        self.held(one, "book", "ab -")
        self.held(other, "book", "zz")
        self.held(Desk(), "book", ".")

    def test_it_grows_on_behind_refusals(self):
        desk = Desk()
        for row in ("begin", "grow 1 a", "grow 0 ab", "grow 0 A", "begin ", "grow 0 " + "c" * 119, "begin", "grow 1 b", "often 0",
                    "grow x b", "grow 0 b", "words 99", None):
            try:
                desk.say(row)
            except PartError:
                pass
        self.held(desk, "book", "abb b")
        self.held(desk, "table", shown_table(["abb", "b"]))

    def test_the_same_asked_twice(self):
        desk = desk_of(["abbab", "", "ba"])
        first = [desk.say(row) for row in ROWS_THAT_ASK]
        self.assertEqual([desk.say(row) for row in reversed(ROWS_THAT_ASK)], first[::-1])
