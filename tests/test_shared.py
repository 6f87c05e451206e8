import itertools
import unittest

from allparts.errors import NoText, PartError
from allparts.links import kids
from allparts.machine import Machine
from allparts.shared import often, once, shared, texts_by
from tests import looked
from tests.own import hold_own, hold_own_within


class Texts(unittest.TestCase):
    def test_some_by_hand(self):
        book = ["abb", "", "b"]
        self.assertEqual(texts_by(book, Machine(book).table()), [[0, 1, 2], [0], [0, 2], [0], [0]])

    def test_without_signs(self):
        self.assertEqual(texts_by([], Machine([]).table()), [[]])
        for many in range(1, 9):
            self.assertEqual(texts_by([""] * many, Machine([""] * many).table()), [list(range(many))])

    def test_held_against_looking(self):
        for book in looked.small_books() + looked.great_books():
            texts = [[number for number, text in enumerate(book) if group[0] in text] for group in looked.stands(book)]
            self.assertEqual(texts_by(book, Machine(book).table()), texts, book)

    def test_texts_add_up_along_the_tree(self):
        for book in looked.small_books()[::5] + looked.great_books():
            table = Machine(book).table()
            texts = texts_by(book, table)
            for stand, group in enumerate(looked.stands(book)):
                added = {number for number, text in enumerate(book) if text.startswith(group[-1])}
                for kid in kids(table, stand):
                    added |= set(texts[kid])
                self.assertEqual(texts[stand], sorted(added), (book, stand))

    def test_kinds(self):
        for book in ([], [""], ["abb", "", "b"]):
            told = texts_by(book, Machine(book).table())
            self.assertIs(type(told), list)
            for texts in told:
                self.assertIs(type(texts), list)
                self.assertEqual({type(number) for number in texts} - {int}, set())


class Shared(unittest.TestCase):
    def test_some_by_hand(self):
        book = ["xabcy", "abcabc", "", "zzabz", "yx"]
        self.assertEqual(shared(book, [0]), ("xabcy", [5]))
        self.assertEqual(shared(book, [0, 1]), ("abc", [4, 3]))
        self.assertEqual(shared(book, [1, 0, 3]), ("ab", [2, 3, 4]))
        self.assertEqual(shared(book, [3, 3, 0]), ("ab", [4, 4, 3]))
        self.assertEqual(shared(book, [2]), ("", [0]))
        self.assertEqual(shared(book, [0, 2, 1]), ("", [0, 0, 0]))
        self.assertEqual(shared(book, [3, 4]), ("", [0, 0]))

    def test_of_several_as_long_the_first_in_order(self):
        self.assertEqual(shared(["xaxb", "bxax"], [0, 1]), ("xax", [3, 4]))
        self.assertEqual(shared(["zz", "aa", "zzaa"], [2, 0]), ("zz", [2, 2]))
        self.assertEqual(shared(["dcba", "abcd"], [0, 1]), ("a", [4, 1]))
        self.assertEqual(shared(["zyba", "bazy"], [1, 0]), ("ba", [2, 4]))

    def test_of_one_text_it_is_the_text(self):
        for book in looked.small_books()[::3] + looked.great_books():
            for number, text in enumerate(book):
                self.assertEqual(shared(book, [number]), (text, [len(text)]), (book, number))
                self.assertEqual(shared(book, [number] * 3), (text, [len(text)] * 3), (book, number))

    def test_of_each_choice_of_some(self):
        for book in looked.small_books()[::3]:
            if len(book) <= 3:
                for many in range(1, 4):
                    for some in itertools.product(range(len(book)), repeat=many):
                        self.assertEqual(shared(book, list(some)), looked.shared(book, some), (book, some))

    def test_of_many_texts(self):
        for book in looked.small_books()[-200::5] + looked.great_books():
            everyone = list(range(len(book)))
            for some in (everyone, everyone[::-1], everyone[::2], everyone[1::2] + everyone, everyone * 3, everyone[-2:]):
                self.assertEqual(shared(book, list(some)), looked.shared(book, some), (book, some))

    def test_of_a_list_of_three_hundred(self):
        some = [1, 0, 2] * 100
        self.assertEqual(shared(["abc", "bc", "cbc"], some), ("bc", [2, 3, 3] * 100))

    def test_kinds(self):
        for some in ([0], [1, 0, 1]):
            told = shared(["abb", "ba"], some)
            self.assertIs(type(told), tuple)
            self.assertEqual([type(thing) for thing in told], [str, list])
            self.assertEqual({type(end) for end in told[1]}, {int})

    def test_no_text(self):
        for book in ([], [""], ["ab"], ["ab", "b"], ["a" * 15] * 8):
            good = list(range(len(book))) or [0]
            for thing in looked.no_numbers_below(len(book)):
                for some in ([thing], [thing] + good, good + [thing], good + [thing] + good, [thing, thing]):
                    with self.assertRaises(PartError) as caught:
                        shared(book, some)
                    self.assertIs(type(caught.exception), NoText, (book, some))

    def test_no_text_of_a_book_without_texts(self):
        for number in (0, 1, -1, 7):
            with self.assertRaises(NoText):
                shared([], [number])


class Often(unittest.TestCase):
    def test_some_by_hand(self):
        book = ["abab", "", "bab"]
        self.assertEqual(often(book, 1), ("abab", [(0, 4)]))
        self.assertEqual(often(book, 2), ("bab", [(0, 4), (2, 3)]))
        self.assertEqual(often(book, 3), ("ab", [(0, 2), (0, 4), (2, 3)]))
        self.assertEqual(often(book, 4), ("b", [(0, 2), (0, 4), (2, 1), (2, 3)]))
        self.assertIsNone(often(book, 5))

    def test_of_several_as_long_the_first(self):
        self.assertEqual(often(["ba", "ab", "b"], 1), ("ab", [(1, 2)]))
        self.assertEqual(often(["zyzy", "abab"], 2), ("ab", [(1, 2), (1, 4)]))

    def test_places_may_lie_one_over_another(self):
        self.assertEqual(often(["aaaa"], 2), ("aaa", [(0, 3), (0, 4)]))
        self.assertEqual(often(["aaaa"], 4), ("a", [(0, 1), (0, 2), (0, 3), (0, 4)]))
        self.assertIsNone(often(["aaaa"], 5))

    def test_without_signs(self):
        for book in ([], [""], [""] * 8):
            for times in (1, 2, 8, 10 ** 59):
                self.assertIsNone(often(book, times))

    def test_held_against_looking(self):
        for book in looked.small_books() + looked.great_books():
            most = max([len(places) for word, places in looked.places_by_word(book).items() if word], default=0)
            for times in (1, 2, 3, max(most, 1), most + 1):
                self.assertEqual(often(book, times), looked.often(book, times), (book, times))
            for times in (most + 1, 1000, 10 ** 59, 10 ** 60 - 1):
                self.assertIsNone(often(book, times), (book, times))

    def test_each_number_of_times(self):
        for book in looked.great_books()[:10:3]:
            for times in range(1, 122, 5):
                self.assertEqual(often(book, times), looked.often(book, times), (book, times))

    def test_kinds(self):
        told = often(["abab", "b"], 2)
        self.assertIs(type(told), tuple)
        self.assertEqual([type(thing) for thing in told], [str, list])
        for place in told[1]:
            self.assertIs(type(place), tuple)
            self.assertEqual([type(number) for number in place], [int, int])


class Once(unittest.TestCase):
    def test_some_by_hand(self):
        self.assertEqual(once(["abab", "", "bab"]), ("aba", (0, 3)))
        self.assertEqual(once(["a", "b"]), ("a", (0, 1)))
        self.assertEqual(once(["b", "a"]), ("a", (1, 1)))
        self.assertEqual(once(["aaaa"]), ("aaaa", (0, 4)))
        self.assertEqual(once(["abc", "bcd"]), ("a", (0, 1)))
        self.assertEqual(once(["aabb", "baab"]), ("ba", (1, 2)))

    def test_where_there_is_none(self):
        for book in ([], [""], ["", ""], [""] * 8, ["a", "a"], ["abc", "abc"], ["ab", "", "ab"], ["b", "ab", "ab"]):
            self.assertIsNone(once(book), book)
        for book in looked.small_books()[::5]:
            if len(book) <= 4:
                self.assertIsNone(once(book + book), book)

    def test_held_against_looking(self):
        for book in looked.small_books() + looked.great_books():
            self.assertEqual(once(book), looked.once(book), book)

    def test_kinds(self):
        told = once(["abab", "b"])
        self.assertIs(type(told), tuple)
        self.assertEqual([type(thing) for thing in told], [str, tuple])
        self.assertEqual([type(number) for number in told[1]], [int, int])


class Beyond(unittest.TestCase):
    def test_a_book_somewhat_beyond_its_bounds_is_not_refused(self):
        for book in (["ab"] * 9, ["ab", "b"] * 5, ["ab"] * 8 + ["bba"], ["ab" * 62], ["a" * 70, "b" * 70]):
            self.assertEqual(shared(book, [0, len(book) - 1]), looked.shared(book, [0, len(book) - 1]))
            self.assertEqual(often(book, 2), looked.often(book, 2))
            self.assertEqual(once(book), looked.once(book))


class Own(unittest.TestCase):
    def test_told_lists_are_the_askers_own(self):
        book = ["abbab", "ba"]
        for tell in (lambda: shared(book, [1, 0])[1], lambda: often(book, 2)[1]):
            hold_own(self, tell)

    def test_told_lists_within_lists_are_the_askers_own(self):
        for book in ([], ["", ""], ["abbab", "ba"], ["a", "a"]):
            table = Machine(book).table()
            hold_own_within(self, lambda: texts_by(book, table))

    def test_nothing_handed_in_is_changed(self):
        book = ["abbab", "", "ba"]
        table = Machine(book).table()
        before = list(table)
        some = [2, 0, 2]
        texts_by(book, table)
        shared(book, some)
        often(book, 2)
        once(book)
        with self.assertRaises(NoText):
            shared(book, some + [3])
        self.assertEqual((book, table, some), (["abbab", "", "ba"], before, [2, 0, 2]))

    def test_what_was_handed_in_and_changed_changes_no_later_answer(self):
        book = ["abb", "b"]
        some = [1, 0]
        table = Machine(book).table()
        told = [texts_by(book, table), shared(book, some), often(book, 2), once(book)]
        book[0] = "zz"
        some.append(0)
        table.clear()
        right = [[[0, 1], [0], [0, 1], [0], [0]], ("b", [1, 2]), ("b", [(0, 2), (0, 3), (1, 1)]), ("a", (0, 1))]
        self.assertEqual(told, right)
        self.assertEqual(shared(book, some), ("", [0, 0, 0]))
        book = ["abb", "b"]
        self.assertEqual([texts_by(book, Machine(book).table()), shared(book, [1, 0]), often(book, 2), once(book)], right)
