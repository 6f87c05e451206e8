import itertools
import random
import unittest

from allparts.errors import NoText, PartError, TooMany
from allparts.machine import Machine
from tests import looked


class Table(unittest.TestCase):
    def test_some_by_hand(self):
        one_stand = [(0, 0, None, ())]
        self.assertEqual(Machine().table(), one_stand)
        self.assertEqual(Machine([]).table(), one_stand)
        self.assertEqual(Machine(["", ""]).table(), one_stand)
        self.assertEqual(Machine(["a"]).table(), [(0, 0, None, (("a", 1),)), (1, 1, 0, ())])
        self.assertEqual(
            Machine(["abb"]).table(),
            [
                (0, 0, None, (("a", 1), ("b", 2))),
                (1, 1, 0, (("b", 3),)),
                (1, 1, 0, (("b", 4),)),
                (2, 2, 2, (("b", 4),)),
                (2, 3, 2, ()),
            ],
        )
        self.assertEqual(
            Machine(["ba", "a"]).table(),
            [(0, 0, None, (("a", 1), ("b", 2))), (1, 1, 0, ()), (1, 1, 0, (("a", 3),)), (2, 2, 1, ())],
        )

    def test_small_books_held_against_looking(self):
        for book in looked.small_books():
            self.assertEqual(Machine(book).table(), looked.table(book), book)

    def test_great_books_held_against_looking(self):
        for book in looked.great_books():
            self.assertEqual(Machine(book).table(), looked.table(book), book)

    def test_kinds(self):
        for book in ([], [""], ["abcbc", "", "cb"], looked.great_books()[5]):
            table = Machine(book).table()
            self.assertIs(type(table), list)
            for number, row in enumerate(table):
                self.assertIs(type(row), tuple)
                shortest, longest, link, ways = row
                self.assertIs(type(shortest), int)
                self.assertIs(type(longest), int)
                self.assertIs(type(link), type(None) if number == 0 else int)
                self.assertIs(type(ways), tuple)
                for way in ways:
                    self.assertIs(type(way), tuple)
                    self.assertEqual([type(thing) for thing in way], [str, int])
                signs = [sign for sign, ahead in ways]
                self.assertEqual(signs, sorted(set(signs)))

    def test_how_many_stands_and_ways(self):
        for book in looked.small_books() + looked.great_books():
            table = Machine(book).table()
            signs = sum(len(text) for text in book)
            ways = sum(len(row[3]) for row in table)
            if signs == 0:
                self.assertEqual((len(table), ways), (1, 0))
            else:
                self.assertLessEqual(len(table), 2 * signs)
                self.assertLess(ways, 3 * signs)

    def test_links_make_a_tree(self):
        for book in looked.small_books()[::5] + looked.great_books():
            table = Machine(book).table()
            for shortest, longest, link, ways in table[1:]:
                self.assertLess(table[link][1], longest)
                self.assertEqual(table[link][1] + 1, shortest)

    def test_what_may_follow_parts_each_two_stands(self):
        for book in looked.small_books()[::5] + looked.great_books():
            found = looked.places_by_word(book)
            rests = []
            for group in looked.stands(book):
                rests.append(tuple(sorted((text, book[text][end:]) for text, end in found[group[0]])))
            self.assertEqual(len(set(rests)), len(Machine(book).table()), book)


class Growing(unittest.TestCase):
    def held(self, machine, book):
        self.assertEqual(machine.book(), book)
        table = machine.table()
        self.assertEqual(table, Machine(list(book)).table(), book)
        self.assertEqual(table, looked.table(book), book)

    def test_begin_tells_the_numbers(self):
        machine = Machine()
        self.assertEqual([machine.begin() for text in range(8)], list(range(8)))
        self.assertEqual(machine.book(), [""] * 8)
        machine = Machine(["ab", ""])
        self.assertEqual(machine.begin(), 2)
        self.assertEqual(machine.book(), ["ab", "", ""])

    def test_grow_tells_nothing(self):
        machine = Machine(["a"])
        self.assertIsNone(machine.grow(0, "b"))
        self.assertIsNone(machine.grow(0, ""))
        self.assertEqual(machine.book(), ["ab"])

    def test_made_of_a_book_or_none(self):
        for machine in (Machine(), Machine(None), Machine(book=None), Machine([]), Machine(book=[])):
            self.held(machine, [])
        self.held(Machine(book=["ab", "", "b"]), ["ab", "", "b"])

    def test_each_weaving_of_two_texts(self):
        for texts in (("aba", "bab"), ("abb", "abb"), ("aab", "aba"), ("abca", "bc"), ("aaa", "aa")):
            long = len(texts[0]) + len(texts[1])
            for firsts in itertools.combinations(range(long), len(texts[0])):
                machine = Machine(["", ""])
                book = ["", ""]
                for step in range(long):
                    number = 0 if step in firsts else 1
                    sign = texts[number][len(book[number])]
                    machine.grow(number, sign)
                    book[number] += sign
                    self.held(machine, book)

    def test_many_weavings(self):
        for seed in range(150):
            chance = random.Random(seed)
            letters = chance.choice(["a", "ab", "abc", "abz"])
            machine = Machine()
            book = []
            for step in range(25):
                if len(book) < 8 and (not book or chance.random() < 0.15):
                    self.assertEqual(machine.begin(), len(book))
                    book.append("")
                else:
                    number = chance.randrange(len(book))
                    word = looked.chance_word(chance, letters, chance.choice([1, 1, 4]))
                    machine.grow(number, word)
                    book[number] += word
                self.held(machine, book)

    def test_on_from_a_book(self):
        for seed, book in enumerate(looked.small_books()[::20]):
            chance = random.Random(seed)
            machine = Machine(book)
            grown = list(book)
            for step in range(6):
                if not grown or (len(grown) < 8 and chance.random() < 0.3):
                    machine.begin()
                    grown.append("")
                number = chance.randrange(len(grown))
                word = looked.chance_word(chance, "ab", 2)
                machine.grow(number, word)
                grown[number] += word
                self.held(machine, grown)

    def test_woven_up_to_120_signs(self):
        for book in looked.great_books():
            chance = random.Random(len(book))
            machine = Machine([""] * len(book))
            grown = [""] * len(book)
            while grown != book:
                number = chance.choice([k for k in range(len(book)) if grown[k] != book[k]])
                start = len(grown[number])
                word = book[number][start:start + chance.randint(0, 5)]
                machine.grow(number, word)
                grown[number] += word
            self.held(machine, book)

    def test_one_sign_at_a_time_is_as_good_as_a_word(self):
        for book in looked.small_books()[::4]:
            machine = Machine()
            for text in book:
                number = machine.begin()
                for sign in text:
                    machine.grow(number, sign)
            self.assertEqual(machine.book(), book)
            self.assertEqual(machine.table(), Machine(book).table())

    def test_two_machines_beside_one_another(self):
        one = Machine(["ab"])
        other = Machine(["ab"])
        bare = Machine()
        one.grow(0, "ba")
        self.held(other, ["ab"])
        other.begin()
        other.grow(1, "aab")
        self.held(one, ["abba"])
        one.grow(0, "b")
        self.held(one, ["abbab"])
        self.held(other, ["ab", "aab"])
        self.held(bare, [])
        bare.begin()
        self.held(Machine(), [])


class Refused(unittest.TestCase):
    def refused(self, machine, error, what):
        book = machine.book()
        table = machine.table()
        with self.assertRaises(PartError) as caught:
            what()
        self.assertIs(type(caught.exception), error)
        self.assertEqual(machine.book(), book)
        self.assertEqual(machine.table(), table)

    def test_numbers_that_are_no_texts(self):
        for book in ([], ["ab"], ["ab", "b"], ["a" * 15] * 8):
            machine = Machine(book)
            count = len(book)
            for number in (-1, -2, -count - 1, count, count + 1, 8, 9, 300, 10 ** 59, -(10 ** 59)):
                for word in ("", "a", "ab", "a" * 120, "a" * 121, "a" * 200):
                    self.refused(machine, NoText, lambda: machine.grow(number, word))

    def test_what_is_no_whole_number(self):
        for book in ([], ["ab"], ["ab", "b", "a"], ["a" * 15] * 8):
            machine = Machine(book)
            for thing in looked.NO_NUMBERS:
                for word in ("", "b", "a" * 121):
                    self.refused(machine, NoText, lambda: machine.grow(thing, word))

    def test_a_ninth_text(self):
        for book in ([""] * 8, ["ab"] * 8, ["a" * 15] * 8):
            machine = Machine(book)
            self.refused(machine, TooMany, machine.begin)
            self.refused(machine, TooMany, machine.begin)
        machine = Machine([""] * 7)
        self.assertEqual(machine.begin(), 7)
        self.refused(machine, TooMany, machine.begin)
        machine.grow(7, "ab")
        self.assertEqual(machine.book(), [""] * 7 + ["ab"])

    def test_more_than_120_signs(self):
        for book, room in (([""], 120), (["a" * 119], 1), (["ab" * 30, "", "b" * 30], 30), (["a" * 15] * 8, 0)):
            machine = Machine(book)
            for number in range(len(book)):
                for more in (1, 2, 60):
                    self.refused(machine, TooMany, lambda: machine.grow(number, "b" * (room + more)))
            machine.grow(len(book) - 1, "c" * room)
            grown = book[:-1] + [book[-1] + "c" * room]
            self.assertEqual(machine.book(), grown)
            self.assertEqual(machine.table(), looked.table(grown))
            self.refused(machine, TooMany, lambda: machine.grow(0, "a"))
            machine.grow(0, "")
            self.assertEqual(machine.book(), grown)

    def test_made_of_too_many(self):
        books = [[""] * 9, ["a"] * 9, [""] * 300, ["a"] * 300, ["a" * 121], ["", "a" * 121], ["a" * 60, "b" * 61]]
        books += [["a" * 15] * 7 + ["a" * 16], ["a" * 120, "", "b"], ["ab" * 10000], ["a" * 15] * 8 + [""]]
        for book in books:
            handed = list(book)
            with self.assertRaises(PartError) as caught:
                Machine(handed)
            self.assertIs(type(caught.exception), TooMany)
            self.assertEqual(handed, book)

    def test_what_just_fits_is_taken(self):
        for book in ([""] * 8, ["a" * 120], ["a" * 15] * 8, ["a" * 60, "b" * 60], [""] * 7 + ["ab" * 60]):
            self.assertEqual(Machine(book).book(), book)

    def test_grown_on_behind_a_refusal(self):
        machine = Machine(["abab", "ba"])
        for number, word in ((2, "a"), (True, "b"), (0, "c" * 115), (None, "")):
            with self.assertRaises(PartError):
                machine.grow(number, word)
        machine.grow(1, "bb")
        machine.begin()
        machine.grow(0, "b")
        self.assertEqual(machine.book(), ["ababb", "babb", ""])
        self.assertEqual(machine.table(), looked.table(["ababb", "babb", ""]))


class Own(unittest.TestCase):
    def test_a_list_handed_in_is_not_kept_nor_changed(self):
        book = ["ab", "b"]
        machine = Machine(book)
        table = machine.table()
        book[0] = "zzz"
        book.append("q")
        self.assertEqual(machine.book(), ["ab", "b"])
        self.assertEqual(machine.table(), table)
        self.assertEqual(machine.begin(), 2)
        machine.grow(0, "c")
        self.assertEqual(book, ["zzz", "b", "q"])
        self.assertEqual(machine.book(), ["abc", "b", ""])

    def test_a_told_book_is_the_askers_own(self):
        machine = Machine(["ab", "b"])
        told = machine.book()
        told[1] = "x"
        told.append("y")
        self.assertEqual(machine.book(), ["ab", "b"])
        self.assertEqual(machine.table(), looked.table(["ab", "b"]))
        kept = machine.book()
        machine.grow(1, "c")
        machine.begin()
        self.assertEqual(kept, ["ab", "b"])
        self.assertEqual(machine.book(), ["ab", "bc", ""])

    def test_a_told_table_is_the_askers_own(self):
        machine = Machine(["abab"])
        told = machine.table()
        before = list(told)
        told[0] = None
        told.clear()
        self.assertEqual(machine.table(), before)
        kept = machine.table()
        machine.grow(0, "bb")
        self.assertEqual(kept, before)
        self.assertEqual(machine.table(), looked.table(["ababbb"]))
