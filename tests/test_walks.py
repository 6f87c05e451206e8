import unittest

from allparts.errors import NoStand, PartError
from allparts.machine import Machine
from allparts.walks import longest, shortest, stand_of, walk, words
from tests import looked


class Walks(unittest.TestCase):
    def test_some_by_hand(self):
        table = Machine(["abb"]).table()
        self.assertEqual(walk(table, ""), [0])
        self.assertEqual(walk(table, "abb"), [0, 1, 3, 4])
        self.assertEqual(walk(table, "bb"), [0, 2, 4])
        self.assertEqual(walk(table, "bba"), [0, 2, 4])
        self.assertEqual(walk(table, "abab"), [0, 1, 3])
        self.assertEqual(walk(table, "cab"), [0])
        self.assertEqual(stand_of(table, ""), 0)
        self.assertEqual(stand_of(table, "abb"), 4)
        self.assertEqual(stand_of(table, "bb"), 4)
        self.assertEqual(stand_of(table, "b"), 2)
        for word in ("ba", "bba", "abbb", "c", "ca", "a" * 200, "abb" + "z" * 197):
            self.assertIsNone(stand_of(table, word), word)

    def test_without_signs(self):
        for book in ([], [""], ["", ""]):
            table = Machine(book).table()
            self.assertEqual(walk(table, ""), [0])
            self.assertEqual(stand_of(table, ""), 0)
            self.assertEqual(walk(table, "ab"), [0])
            self.assertIsNone(stand_of(table, "a"))

    def test_a_walk_ends_where_the_parts_end(self):
        for book in looked.small_books()[::7]:
            table = Machine(book).table()
            number = {word: k for k, group in enumerate(looked.stands(book)) for word in group}
            for word in looked.all_words("abc", 5) + list(number):
                beginnings = [word[:end] for end in range(len(word) + 1)]
                self.assertEqual(walk(table, word), [number[part] for part in beginnings if part in number], (book, word))
                told = stand_of(table, word)
                self.assertEqual(told, number.get(word), (book, word))
                self.assertIs(type(told), int if word in number else type(None))

    def test_one_stand_just_for_the_same_places(self):
        for book in looked.great_books():
            table = Machine(book).table()
            places_of = {}
            for word, places in looked.places_by_word(book).items():
                places_of.setdefault(stand_of(table, word), set()).add(tuple(places))
            self.assertEqual(sorted(places_of), list(range(len(table))))
            self.assertEqual({len(places) for places in places_of.values()}, {1})
            self.assertEqual(len(set.union(*places_of.values())), len(table))

    def test_a_walk_is_a_list(self):
        self.assertIs(type(walk(Machine(["ab"]).table(), "ab")), list)


class Words(unittest.TestCase):
    def test_words_of_every_stand(self):
        for book in looked.small_books() + looked.great_books():
            table = Machine(book).table()
            groups = looked.stands(book)
            self.assertEqual(len(groups), len(table))
            for stand, group in enumerate(groups):
                self.assertEqual(words(table, stand), group, (book, stand))
                self.assertEqual(longest(table, stand), group[-1], (book, stand))
                self.assertEqual(shortest(table, stand), group[0], (book, stand))

    def test_stand_0(self):
        for book in ([], [""], ["abc"]):
            table = Machine(book).table()
            self.assertEqual(words(table, 0), [""])
            self.assertEqual(longest(table, 0), "")
            self.assertEqual(shortest(table, 0), "")

    def test_no_stand(self):
        for book in ([], [""], ["a"], ["abb", "ba"]):
            table = Machine(book).table()
            for thing in looked.no_numbers_below(len(table)):
                for told in (longest, shortest, words):
                    with self.assertRaises(PartError) as caught:
                        told(table, thing)
                    self.assertIs(type(caught.exception), NoStand)


class Own(unittest.TestCase):
    def test_told_lists_are_the_askers_own(self):
        table = Machine(["abbab"]).table()
        for told in (lambda: walk(table, "abba"), lambda: words(table, len(table) - 1), lambda: words(table, 0)):
            before = list(told())
            told().append("q")
            told().clear()
            self.assertEqual(told(), before)

    def test_nothing_handed_in_is_changed(self):
        table = Machine(["abbab", "ba"]).table()
        before = list(table)
        for word in ("", "abba", "zz"):
            walk(table, word)
            stand_of(table, word)
        for stand in range(len(table)):
            longest(table, stand)
            shortest(table, stand)
            words(table, stand)
        self.assertEqual(table, before)

    def test_a_table_changed_later_changes_no_later_answer(self):
        table = Machine(["abb"]).table()
        told = words(table, 4)
        went = walk(table, "abb")
        table.clear()
        self.assertEqual(told, ["bb", "abb"])
        self.assertEqual(went, [0, 1, 3, 4])
        again = Machine(["abb"]).table()
        self.assertEqual(words(again, 4), ["bb", "abb"])
        self.assertEqual(walk(again, "abb"), [0, 1, 3, 4])
