import unittest

from allparts.books import is_book, is_word, parts_of, places, signs_in
from tests import looked

NO_TEXTS = (None, True, False, 0, 1, 97, -1, 1.5, b"", b"abc", (), ("a",), [], ["a"], {}, {"a": 1}, {"a"}, object(), str)
NO_SIGNS = ("A", "Z", "1", " ", "-", ".", "\n", "\t", "`", "{", "~", "\0", "\u00e4", "\u03b1", "\uff41", "\U0001d41a")


class IsWord(unittest.TestCase):
    def test_words(self):
        for word in ("", "a", "z", "m", looked.LETTERS, "aa", "zyx", "a" * 199, "z" * 200):
            self.assertIs(is_word(word), True, word)

    def test_more_than_200_signs(self):
        for long in (201, 202, 400, 20000):
            self.assertIs(is_word("a" * long), False, long)

    def test_other_signs(self):
        for sign in NO_SIGNS:
            for text in (sign, "a" + sign, sign + "z", "ab" + sign + "cd", "a" * 199 + sign):
                self.assertIs(is_word(text), False, text)

    def test_no_text(self):
        for thing in NO_TEXTS:
            self.assertIs(is_word(thing), False, thing)


class IsBook(unittest.TestCase):
    def test_books(self):
        for book in looked.small_books() + looked.great_books():
            self.assertIs(is_book(book), True, book)

    def test_how_many_texts(self):
        for count in range(0, 9):
            self.assertIs(is_book([""] * count), True, count)
            self.assertIs(is_book(["ab"] * count), True, count)
        for count in (9, 10, 300):
            self.assertIs(is_book([""] * count), False, count)
            self.assertIs(is_book(["a"] * count), False, count)

    def test_how_many_signs(self):
        for book in (["a" * 120], ["", "a" * 120], ["a" * 60, "b" * 60], ["a" * 15] * 8, ["a" * 119, "b"]):
            self.assertIs(is_book(book), True, book)
        for book in (["a" * 121], ["", "a" * 121], ["a" * 60, "b" * 61], ["a" * 16] + ["a" * 15] * 7, ["a" * 20000]):
            self.assertIs(is_book(book), False, book)
            self.assertIs(is_book(book[::-1]), False, book)

    def test_other_signs(self):
        for sign in NO_SIGNS:
            for book in ([sign], ["a", sign], ["a" + sign + "b"], ["", "abc", "ab" + sign]):
                self.assertIs(is_book(book), False, book)

    def test_no_list(self):
        things = (None, True, False, 0, 8, "", "a", "abc", (), ("a",), ("a", "b"), {}, {"a": "b"}, {"a"}, b"ab", object(), list)
        for thing in things:
            self.assertIs(is_book(thing), False, thing)
        self.assertIs(is_book(iter(["a"])), False)

    def test_a_list_with_what_is_no_text(self):
        for thing in NO_TEXTS:
            for book in ([thing], ["a", thing], [thing, "a"], ["", "a", thing, "b"]):
                self.assertIs(is_book(book), False, book)


class Parts(unittest.TestCase):
    def test_signs_in(self):
        self.assertEqual(signs_in([]), 0)
        self.assertEqual(signs_in(["", ""]), 0)
        self.assertEqual(signs_in(["abc", "", "a", "abc"]), 7)
        for book in looked.great_books():
            self.assertEqual(signs_in(book), 120)

    def test_places_of_the_empty_word(self):
        self.assertEqual(places([], ""), [])
        self.assertEqual(places([""], ""), [(0, 0)])
        self.assertEqual(places(["", ""], ""), [(0, 0), (1, 0)])
        self.assertEqual(places(["ab", "", "a"], ""), [(0, 0), (0, 1), (0, 2), (1, 0), (2, 0), (2, 1)])

    def test_places_of_words(self):
        self.assertEqual(places(["abc"], "b"), [(0, 2)])
        self.assertEqual(places(["abc"], "abc"), [(0, 3)])
        self.assertEqual(places(["aaaa"], "aa"), [(0, 2), (0, 3), (0, 4)])
        self.assertEqual(places(["ababa"], "aba"), [(0, 3), (0, 5)])
        self.assertEqual(places(["xab", "", "abab", "ba", "ab"], "ab"), [(0, 3), (2, 2), (2, 4), (4, 2)])
        self.assertEqual(places(["a" * 12] * 2, "a" * 11), [(0, 11), (0, 12), (1, 11), (1, 12)])

    def test_places_of_what_is_no_part(self):
        for book in ([], [""], ["abc"], ["ab", "c"], ["ba", "bc", "cab"[:2]]):
            for word in ("d", "ac", "abca", "ccc", "a" * 200):
                self.assertEqual(places(book, word), [], (book, word))

    def test_places_are_those_that_are_found_by_looking(self):
        for book in looked.small_books()[::3] + looked.great_books()[5:7]:
            for word, found in looked.places_by_word(book).items():
                told = places(book, word)
                self.assertEqual(told, found, (book, word))
                self.assertEqual(told, sorted(told))

    def test_places_are_tuples_in_a_list(self):
        told = places(["ab", "b"], "b")
        self.assertIs(type(told), list)
        for place in told:
            self.assertIs(type(place), tuple)
            self.assertEqual([type(number) for number in place], [int, int])

    def test_parts_of_length_0(self):
        for book in ([], [""], ["", ""], ["a"], ["abc", "", "ab"]):
            self.assertEqual(parts_of(book, 0), [""])

    def test_parts_of_a_length(self):
        self.assertEqual(parts_of(["banana"], 1), ["a", "b", "n"])
        self.assertEqual(parts_of(["banana"], 2), ["an", "ba", "na"])
        self.assertEqual(parts_of(["banana"], 6), ["banana"])
        self.assertEqual(parts_of(["zb", "ab", "", "zba", "ab"], 2), ["ab", "ba", "zb"])

    def test_parts_of_lengths_that_no_part_has(self):
        for book, long in (([], 1), ([""], 1), (["", ""], 2), (["abc"], 4), (["abc", "ab"], 121), (["abc"], 10 ** 59)):
            self.assertEqual(parts_of(book, long), [], (book, long))

    def test_parts_are_those_that_are_found_by_looking(self):
        for book in looked.small_books() + looked.great_books():
            found = sorted(looked.places_by_word(book))
            for long in range(max([0] + [len(text) for text in book]) + 2):
                told = parts_of(book, long)
                self.assertIs(type(told), list)
                self.assertEqual(told, [word for word in found if len(word) == long], (book, long))

    def test_told_lists_are_the_askers_own(self):
        book = ["aba", "b"]
        places(book, "b").clear()
        self.assertEqual(places(book, "b"), [(0, 2), (1, 1)])
        for long in (0, 1):
            before = list(parts_of(book, long))
            parts_of(book, long).append("q")
            self.assertEqual(parts_of(book, long), before)

    def test_nothing_handed_in_is_changed(self):
        book = ["ba", "", "ab"]
        for answer in (is_book(book), signs_in(book), places(book, "a"), places(book, ""), parts_of(book, 1)):
            self.assertIsNotNone(answer)
        self.assertEqual(book, ["ba", "", "ab"])
        told = places(book, "a")
        book[0] = "c"
        self.assertEqual(told, [(0, 2), (2, 1)])
        self.assertEqual(places(book, "a"), [(2, 1)])
