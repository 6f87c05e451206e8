import unittest

from allparts.machine import Machine
from allparts.order import counted, number_of, part_at, unlike
from tests import looked

NO_PART_HAS = (121, 200, 300, 10 ** 59, 10 ** 60 - 1)
FAR = (10 ** 6, 10 ** 59, 10 ** 60 - 1)


class Counts(unittest.TestCase):
    def test_some_by_hand(self):
        table = Machine(["abb", "b"]).table()
        self.assertEqual(unlike(table), 5)
        self.assertEqual([counted(table, long) for long in range(6)], [1, 2, 2, 1, 0, 0])

    def test_without_signs(self):
        for book in ([], [""], ["", ""]):
            table = Machine(book).table()
            self.assertEqual(unlike(table), 0)
            self.assertEqual(counted(table, 0), 1)
            for long in (1, 2) + NO_PART_HAS:
                self.assertEqual(counted(table, long), 0)

    def test_held_against_looking(self):
        for book in looked.small_books() + looked.great_books():
            table = Machine(book).table()
            longs = [len(word) for word in looked.places_by_word(book)]
            self.assertEqual(unlike(table), len(longs) - 1, book)
            for long in range(max(longs) + 4):
                self.assertEqual(counted(table, long), longs.count(long), (book, long))
            for long in NO_PART_HAS:
                self.assertEqual(counted(table, long), 0, (book, long))

    def test_kinds(self):
        for book in ([], [""], ["abb", "b"]):
            table = Machine(book).table()
            for told in (unlike(table), counted(table, 0), counted(table, 1), counted(table, 10 ** 59)):
                self.assertIs(type(told), int)


class Numbers(unittest.TestCase):
    def test_some_by_hand(self):
        table = Machine(["abb", "b"]).table()
        self.assertEqual([part_at(table, number) for number in range(-1, 6)], [None, "a", "ab", "abb", "b", "bb", None])
        words = ("a", "ab", "abb", "b", "bb")
        self.assertEqual([number_of(table, word) for word in words], [0, 1, 2, 3, 4])
        for word in ("", "ba", "c", "abbb", "aa", "z" * 200):
            self.assertIsNone(number_of(table, word), word)

    def test_without_signs(self):
        for book in ([], [""], ["", ""]):
            table = Machine(book).table()
            for number in (-2, -1, 0, 1, 2) + FAR:
                self.assertIsNone(part_at(table, number))
                self.assertIsNone(part_at(table, -number))
            for word in ("", "a", "z", "ab", "a" * 200):
                self.assertIsNone(number_of(table, word))

    def test_every_part_there_and_back(self):
        for book in looked.small_books()[::3] + looked.great_books()[2:8:2]:
            table = Machine(book).table()
            parts = looked.parts_in_order(book)
            self.assertEqual([part_at(table, number) for number in range(len(parts))], parts, book)
            self.assertEqual([number_of(table, word) for word in parts], list(range(len(parts))), book)

    def test_parts_of_great_books(self):
        for book in looked.great_books():
            table = Machine(book).table()
            parts = looked.parts_in_order(book)
            for number in list(range(0, len(parts), 37)) + [len(parts) - 1]:
                self.assertEqual(part_at(table, number), parts[number], (book, number))
                self.assertEqual(number_of(table, parts[number]), number, (book, number))

    def test_numbers_that_no_part_has(self):
        for book in looked.small_books()[::5] + looked.great_books():
            table = Machine(book).table()
            many = unlike(table)
            for number in (-1, -2, -many, -many - 1, many, many + 1) + FAR + tuple(-number for number in FAR):
                if number != 0 or many == 0:
                    self.assertIsNone(part_at(table, number), (book, number))

    def test_words_that_are_no_part(self):
        words = looked.all_words("abc", 4)
        for book in looked.small_books()[::11]:
            table = Machine(book).table()
            parts = looked.parts_in_order(book)
            for word in words + ["d", "z", "a" * 200] + [text + "q" for text in book] + ["q" + text for text in book]:
                told = number_of(table, word)
                self.assertEqual(told, parts.index(word) if word in parts else None, (book, word))

    def test_kinds(self):
        table = Machine(["abb", "b"]).table()
        self.assertIs(type(part_at(table, 2)), str)
        self.assertIs(type(number_of(table, "a")), int)


class Own(unittest.TestCase):
    def test_nothing_handed_in_is_changed(self):
        table = Machine(["abbab", "ba"]).table()
        before = list(table)
        unlike(table)
        counted(table, 2)
        for number in range(-1, 20):
            part_at(table, number)
        for word in ("", "bba", "zz"):
            number_of(table, word)
        self.assertEqual(table, before)

    def test_a_table_changed_later_changes_no_later_answer(self):
        table = Machine(["abb"]).table()
        self.assertEqual((unlike(table), counted(table, 2), part_at(table, 3), number_of(table, "bb")), (5, 2, "b", 4))
        table.clear()
        table.extend(Machine(["c"]).table())
        self.assertEqual((unlike(table), counted(table, 2), part_at(table, 3), number_of(table, "bb")), (1, 0, None, None))
        again = Machine(["abb"]).table()
        self.assertEqual((unlike(again), counted(again, 2), part_at(again, 3), number_of(again, "bb")), (5, 2, "b", 4))
