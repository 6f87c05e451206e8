import itertools
import unittest

from allparts.lacking import full, lacking
from tests import looked


class Lacking(unittest.TestCase):
    def test_some_by_hand(self):
        self.assertEqual(lacking(["abba", "a"], "ab"), "aa")
        self.assertEqual(lacking(["aabba"], "ab"), "aaa")
        self.assertEqual(lacking(["aaba", "bba"], "ab"), "aaa")
        self.assertEqual(lacking(["aab", "bb"], "ab"), "ba")
        self.assertEqual(lacking(["aab", "ba"], "ab"), "bb")
        self.assertEqual(lacking(["abc"], "abcd"), "d")
        self.assertEqual(lacking(["abc"], "bc"), "bb")
        self.assertEqual(lacking(["abc"], "xyz"), "x")
        self.assertEqual(lacking(["aaaa", "baab"], "a"), "aaaaa")
        self.assertEqual(lacking([looked.LETTERS], looked.LETTERS), "aa")
        self.assertEqual(full([looked.LETTERS], looked.LETTERS), 1)
        self.assertEqual(full(["aabba"], "ab"), 2)
        self.assertEqual(full(["aaaa", "baab"], "a"), 4)

    def test_full_may_be_0(self):
        for book, letters in (([], "a"), ([""], "ab"), (["abc"], "abcd"), (["b"], "ab"), (["abc"], "z")):
            self.assertEqual(full(book, letters), 0)

    def test_without_signs(self):
        for book in ([], [""], ["", ""]):
            for letters in ("a", "z", "ab", "mxz", looked.LETTERS):
                self.assertEqual(lacking(book, letters), letters[0])
                self.assertEqual(full(book, letters), 0)

    def test_one_letter(self):
        for long in (1, 2, 119, 120):
            self.assertEqual(lacking(["a" * long], "a"), "a" * (long + 1))
            self.assertEqual(full(["a" * long], "a"), long)
            self.assertEqual(lacking(["a" * long], "b"), "b")

    def test_all_words_of_a_length(self):
        # A ring in which each word of five signs comes once, and four signs of it again.
        ring = "00000100011001010011101011011111".replace("0", "a").replace("1", "b")
        book = [ring + ring[:4]]
        self.assertEqual(full(book, "ab"), 5)
        self.assertEqual(lacking(book, "ab"), looked.lacking(book, "ab"))
        for word in ("".join(signs) for signs in itertools.product("ab", repeat=5)):
            self.assertIn(word, book[0])

    def held(self, book, letters):
        self.assertEqual(lacking(book, letters), looked.lacking(book, letters), (book, letters))
        self.assertEqual(full(book, letters), looked.full(book, letters), (book, letters))
        self.assertEqual(full(book, letters), len(lacking(book, letters)) - 1, (book, letters))

    def test_small_books_held_against_looking(self):
        for book in looked.small_books():
            own = "".join(sorted(set("".join(book))))
            for letters in (own, own[:1], own[1:], own[::2], own + "|", "a", "ab", "abc", "b", "cx", "yz", looked.LETTERS):
                letters = letters.replace("|", "" if own[-1:] == "z" else "z")
                if letters:
                    self.held(book, letters)

    def test_great_books_held_against_looking(self):
        for book in looked.great_books():
            own = "".join(sorted(set("".join(book))))
            for letters in (own, own[:1], own[-1:], own[::2], "ab", "abc", "bc", "xyz", looked.LETTERS):
                self.held(book, letters)

    def test_kinds(self):
        for book in ([], [""], ["ab", "b"]):
            self.assertIs(type(lacking(book, "ab")), str)
            self.assertIs(type(full(book, "ab")), int)

    def test_a_book_somewhat_beyond_its_bounds_is_not_refused(self):
        for book in (["ab"] * 9, ["aabba"] * 10, ["ab"] * 8 + ["aab"], ["ab" * 62], ["a" * 70, "b" * 70]):
            self.held(book, "ab")


class Own(unittest.TestCase):
    def test_nothing_handed_in_is_changed_nor_kept(self):
        book = ["abbab", "", "ba"]
        self.assertEqual((lacking(book, "ab"), full(book, "ab")), ("aa", 1))
        self.assertEqual(book, ["abbab", "", "ba"])
        book[1] = "aab"
        self.assertEqual((lacking(book, "ab"), full(book, "ab")), ("aaa", 2))
        self.assertEqual(book, ["abbab", "aab", "ba"])
        self.assertEqual((lacking(["abbab", "", "ba"], "ab"), full(["abbab", "", "ba"], "ab")), ("aa", 1))
