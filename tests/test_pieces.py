import random
import unittest

from allparts.machine import Machine
from allparts.pieces import matches, pieces
from tests import looked
from tests.own import hold_own


def parts_and_near_parts(book, chance):
    """Some parts of the book, each also with one sign exchanged, and some parts one behind another."""
    parts = sorted(looked.places_by_word(book))
    some = chance.sample(parts, min(len(parts), 6))
    words = list(some)
    for part in some:
        if part:
            at = chance.randrange(len(part))
            words += [part[:at] + sign + part[at + 1:] for sign in "abq"]
    words.append("".join(some)[:200])
    return words


def long_words(book, chance):
    """Words of 200 signs: of the book's own letters, with some that it doesn't have, and of its parts."""
    letters = "".join(sorted(set("".join(book)))) or "a"
    own = "".join(chance.choice(letters) for sign in range(200))
    parts = [part for part in looked.places_by_word(book) if part] or ["a"]
    made = ""
    while len(made) < 200:
        made += chance.choice(parts)
    text = ("".join(book) * 200 or "z" * 200)[:200]
    return [own, own[:120] + "qqj" + own[123:], made[:200], text, letters[0] * 200, "q" * 200]


class Matches(unittest.TestCase):
    def test_some_by_hand(self):
        table = Machine(["abb", "ca"]).table()
        self.assertEqual(matches(table, ""), [0])
        self.assertEqual(matches(table, "abb"), [0, 1, 2, 3])
        self.assertEqual(matches(table, "abba"), [0, 1, 2, 3, 1])
        self.assertEqual(matches(table, "cabb"), [0, 1, 2, 2, 3])
        self.assertEqual(matches(table, "abbb"), [0, 1, 2, 3, 2])
        self.assertEqual(matches(table, "abzbb"), [0, 1, 2, 0, 1, 2])
        self.assertEqual(matches(table, "zz"), [0, 0, 0])

    def test_a_tail_shorter_than_its_stands_longest_word(self):
        # Behind z the tails begin anew, so "b" and "bc" are met at the stand of "ab" and "abc".
        table = Machine(["abc"]).table()
        self.assertEqual(matches(table, "zbc"), [0, 0, 1, 2])
        self.assertEqual(matches(table, "zbcbc"), [0, 0, 1, 2, 1, 2])
        self.assertEqual(matches(Machine(["abcd", "cx"]).table(), "bcx"), [0, 1, 2, 2])

    def test_without_signs(self):
        for book in ([], [""], ["", ""]):
            table = Machine(book).table()
            for word in ("", "a", "abc", "z" * 200):
                self.assertEqual(matches(table, word), [0] * (len(word) + 1), (book, word))

    def test_held_against_looking(self):
        words = looked.all_words("ab", 5) + looked.all_words("abc", 3) + ["abcabc", "zyxzy", "aabbaabb", "azbzaa"]
        for book in looked.small_books()[::6]:
            table = Machine(book).table()
            for word in words:
                self.assertEqual(matches(table, word), looked.matches(book, word), (book, word))

    def test_of_parts_and_near_parts(self):
        for seed, book in enumerate(looked.small_books()[::3] + looked.great_books()):
            table = Machine(book).table()
            for word in parts_and_near_parts(book, random.Random(seed)):
                self.assertEqual(matches(table, word), looked.matches(book, word), (book, word))

    def test_of_words_of_200_signs(self):
        for seed, book in enumerate(looked.great_books() + looked.small_books()[::40]):
            table = Machine(book).table()
            for word in long_words(book, random.Random(seed)):
                told = matches(table, word)
                self.assertEqual(len(told), 201)
                self.assertEqual(told, looked.matches(book, word), (book, word))

    def test_of_a_part_each_beginning_is_its_own_longest_tail(self):
        for book in looked.great_books():
            table = Machine(book).table()
            for text in book:
                self.assertEqual(matches(table, text), list(range(len(text) + 1)))

    def test_kinds(self):
        for word in ("", "abz", "bb"):
            told = matches(Machine(["abb"]).table(), word)
            self.assertIs(type(told), list)
            self.assertEqual({type(long) for long in told}, {int})


class Pieces(unittest.TestCase):
    def test_some_by_hand(self):
        table = Machine(["abb", "ca"]).table()
        self.assertEqual(pieces(table, ""), [])
        self.assertEqual(pieces(table, "abb"), ["abb"])
        self.assertEqual(pieces(table, "abbca"), ["abb", "ca"])
        self.assertEqual(pieces(table, "cabb"), ["ca", "bb"])
        self.assertEqual(pieces(table, "bbbcca"), ["bb", "b", "c", "ca"])
        self.assertEqual(pieces(table, "aaa"), ["a", "a", "a"])

    def test_each_as_long_as_it_can_be_from_the_first_on(self):
        # Of two pieces it could be "a" and "bab" as well.
        self.assertEqual(pieces(Machine(["abab", "bab"]).table(), "ababab"), ["abab", "ab"])
        self.assertEqual(pieces(Machine(["aaa"]).table(), "aaaa"), ["aaa", "a"])
        self.assertEqual(pieces(Machine(["aba", "bcc"]).table(), "abcc"), ["ab", "cc"])

    def test_none_just_where_a_sign_is_in_no_text(self):
        for book in looked.small_books()[::4]:
            table = Machine(book).table()
            for word in looked.all_words("abc", 4) + ["q", "aqa", "abq", "qab"]:
                lacks = any(sign not in "".join(book) for sign in word)
                self.assertEqual(pieces(table, word) is None, lacks, (book, word))

    def test_without_signs(self):
        for book in ([], [""], [""] * 8):
            table = Machine(book).table()
            self.assertEqual(pieces(table, ""), [])
            for word in ("a", "ab", "z" * 200):
                self.assertIsNone(pieces(table, word))

    def test_every_part_is_one_piece(self):
        for book in looked.small_books()[::9] + looked.great_books()[4:8]:
            table = Machine(book).table()
            for word in looked.places_by_word(book):
                self.assertEqual(pieces(table, word), [word] if word else [], (book, word))

    def test_the_best_of_all_cuts(self):
        for book in looked.small_books()[::15]:
            table = Machine(book).table()
            for word in looked.all_words("ab", 6) + ["abcabc", "cabcab", "bcbcbc"]:
                fitting = [some for some in looked.cuts(word) if all(looked.is_part(book, piece) for piece in some)]
                best = looked.best_pieces(fitting) if fitting else None
                self.assertEqual(looked.pieces(book, word), best, (book, word))
                self.assertEqual(pieces(table, word), best, (book, word))

    def test_of_parts_and_near_parts(self):
        for seed, book in enumerate(looked.small_books()[::3] + looked.great_books()):
            table = Machine(book).table()
            for word in parts_and_near_parts(book, random.Random(seed)):
                self.assertEqual(pieces(table, word), looked.pieces(book, word), (book, word))

    def test_of_words_of_200_signs(self):
        for seed, book in enumerate(looked.great_books() + looked.small_books()[::80]):
            table = Machine(book).table()
            for word in long_words(book, random.Random(seed)):
                told = pieces(table, word)
                self.assertEqual(told, looked.pieces(book, word), (book, word))
                if told is not None:
                    self.assertEqual("".join(told), word)
        self.assertEqual(pieces(Machine(["a"]).table(), "a" * 200), ["a"] * 200)
        self.assertEqual(pieces(Machine(["a" * 120]).table(), "a" * 200), ["a" * 120, "a" * 80])

    def test_kinds(self):
        for word in ("", "abab"):
            told = pieces(Machine(["abb"]).table(), word)
            self.assertIs(type(told), list)
            self.assertEqual({type(piece) for piece in told} - {str}, set())


class Own(unittest.TestCase):
    def test_told_lists_are_the_askers_own(self):
        table = Machine(["abb", "ba"]).table()
        for word in ("", "abba", "zz", "bab"):
            hold_own(self, lambda: matches(table, word))
        for word in ("", "abba", "bab"):
            hold_own(self, lambda: pieces(table, word))

    def test_nothing_handed_in_is_changed(self):
        table = Machine(["abb", "ba"]).table()
        before = list(table)
        for word in ("", "abba", "zz", "bab"):
            matches(table, word)
            pieces(table, word)
        self.assertEqual(table, before)

    def test_what_was_handed_in_and_changed_changes_no_later_answer(self):
        table = Machine(["abb"]).table()
        told = [matches(table, "bab"), pieces(table, "bab")]
        table.clear()
        self.assertEqual(told, [[0, 1, 1, 2], ["b", "ab"]])
        again = Machine(["abb"]).table()
        self.assertEqual([matches(again, "bab"), pieces(again, "bab")], told)
