import unittest

from allparts.errors import NoStand, PartError
from allparts.machine import Machine
from allparts.parted import parted, rests
from tests import looked
from tests.own import hold_own


class Rests(unittest.TestCase):
    def test_some_by_hand(self):
        book = ["abb", "", "b"]
        table = Machine(book).table()
        self.assertEqual(
            [rests(book, table, stand) for stand in range(5)],
            [
                [(0, ""), (0, "abb"), (0, "b"), (0, "bb"), (1, ""), (2, ""), (2, "b")],
                [(0, "bb")],
                [(0, ""), (0, "b"), (2, "")],
                [(0, "b")],
                [(0, "")],
            ],
        )

    def test_without_signs(self):
        self.assertEqual(rests([], Machine([]).table(), 0), [])
        for many in range(1, 9):
            book = [""] * many
            self.assertEqual(rests(book, Machine(book).table(), 0), [(text, "") for text in range(many)])

    def test_of_every_stand(self):
        for book in looked.small_books() + looked.great_books():
            table = Machine(book).table()
            for stand, right in enumerate(looked.rests_by(book)):
                told = rests(book, table, stand)
                self.assertEqual(told, right, (book, stand))
                self.assertEqual(told, sorted(told), (book, stand))

    def test_kinds(self):
        book = ["abb", "", "b"]
        told = rests(book, Machine(book).table(), 2)
        self.assertIs(type(told), list)
        for rest in told:
            self.assertIs(type(rest), tuple)
            self.assertEqual([type(thing) for thing in rest], [int, str])


class Parted(unittest.TestCase):
    def test_some_by_hand(self):
        book = ["abb", "", "b"]
        table = Machine(book).table()
        self.assertEqual(parted(book, table, 0, 1), (0, "", 0))
        self.assertEqual(parted(book, table, 1, 0), (0, "", 0))
        self.assertEqual(parted(book, table, 1, 2), (0, "", 2))
        self.assertEqual(parted(book, table, 2, 4), (0, "b", 2))
        self.assertEqual(parted(book, table, 4, 2), (0, "b", 2))
        self.assertEqual(parted(book, table, 1, 3), (0, "b", 3))
        self.assertEqual(parted(book, table, 0, 2), (0, "abb", 0))
        self.assertEqual(parted(["a", "a", "ba"], Machine(["a", "a", "ba"]).table(), 1, 3), (0, "", 1))

    def test_by_a_later_text(self):
        book = ["ab", "b"]
        table = Machine(book).table()
        self.assertEqual(table[3][:2], (2, 2))
        self.assertEqual(parted(book, table, 2, 3), (1, "", 2))
        self.assertEqual(parted(book, table, 3, 2), (1, "", 2))

    def test_each_two_stands(self):
        for book in looked.small_books()[::7]:
            table = Machine(book).table()
            behind = looked.rests_by(book)
            for one in range(len(table)):
                for other in range(len(table)):
                    told = parted(book, table, one, other)
                    self.assertEqual(told, looked.parted(behind, one, other), (book, one, other))
                    self.assertEqual(told is None, one == other)

    def test_some_stands_of_great_books(self):
        for book in looked.great_books():
            table = Machine(book).table()
            behind = looked.rests_by(book)
            some = sorted({0, 1, len(table) - 1, len(table) // 2, len(table) // 3})
            for one in some:
                for other in some:
                    self.assertEqual(parted(book, table, one, other), looked.parted(behind, one, other))

    def test_a_number_and_itself(self):
        for book in ([], [""], [""] * 8, ["abb", "", "b"], looked.great_books()[5]):
            table = Machine(book).table()
            for stand in range(len(table)):
                self.assertIsNone(parted(book, table, stand, stand), (book, stand))

    def test_kinds(self):
        book = ["abb", "", "b"]
        table = Machine(book).table()
        for one, other in ((0, 1), (1, 0), (4, 2)):
            told = parted(book, table, one, other)
            self.assertIs(type(told), tuple)
            self.assertEqual([type(thing) for thing in told], [int, str, int])


class Refused(unittest.TestCase):
    def refused(self, tell, told):
        with self.assertRaises(PartError, msg=told) as caught:
            tell()
        self.assertIs(type(caught.exception), NoStand, told)

    def test_no_stand(self):
        for book in ([], [""], ["a"], ["abb", "ba"], looked.great_books()[5]):
            table = Machine(book).table()
            wrong = looked.no_numbers_below(len(table))
            for thing in wrong:
                self.refused(lambda: rests(book, table, thing), (book, thing))
                self.refused(lambda: parted(book, table, thing, thing), (book, thing))
                for stand in (0, len(table) - 1):
                    self.refused(lambda: parted(book, table, thing, stand), (book, thing, stand))
                    self.refused(lambda: parted(book, table, stand, thing), (book, stand, thing))

    def test_no_stand_at_both(self):
        for book in ([], ["abb", "ba"]):
            table = Machine(book).table()
            wrong = looked.no_numbers_below(len(table))
            for one in wrong:
                for other in wrong:
                    self.refused(lambda: parted(book, table, one, other), (book, one, other))

    def test_truths_beside_the_numbers_they_equal(self):
        book = ["abb", "ba"]
        table = Machine(book).table()
        for one, other in ((0, False), (False, 0), (1, True), (True, 1), (True, True), (False, False)):
            self.refused(lambda: parted(book, table, one, other), (one, other))


class Own(unittest.TestCase):
    def test_told_lists_are_the_askers_own(self):
        for book in ([], [""], ["abb", "ba"]):
            table = Machine(book).table()
            for stand in range(len(table)):
                hold_own(self, lambda: rests(book, table, stand))

    def test_nothing_handed_in_is_changed(self):
        book = ["abb", "", "ba"]
        table = Machine(book).table()
        before = list(table)
        for one in range(len(table)):
            rests(book, table, one)
            for other in range(len(table) + 1):
                try:
                    parted(book, table, one, other)
                except NoStand:
                    self.assertEqual(other, len(table))
        self.assertEqual((book, table), (["abb", "", "ba"], before))

    def test_what_was_handed_in_and_changed_changes_no_later_answer(self):
        book = ["abb", "b"]
        table = Machine(book).table()
        told = [rests(book, table, 2), parted(book, table, 4, 2)]
        book[0] = "zz"
        table.clear()
        self.assertEqual(told, [[(0, ""), (0, "b"), (1, "")], (0, "b", 2)])
        book = ["abb", "b"]
        table = Machine(book).table()
        self.assertEqual([rests(book, table, 2), parted(book, table, 4, 2)], told)
