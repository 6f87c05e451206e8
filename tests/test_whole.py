"""What is promised over the whole program, held through its interface on books that grew in chance weavings."""

import random
import unittest

from allparts.books import parts_of, places, signs_in
from allparts.lacking import full, lacking
from allparts.links import counts, kids, places_by
from allparts.machine import Machine
from allparts.order import counted, number_of, part_at, unlike
from allparts.parted import parted, rests
from allparts.pieces import matches, pieces
from allparts.shared import often, once, shared, texts_by
from allparts.texts import read_book, read_table, show_book, show_table
from allparts.walks import stand_of, words
from tests import looked


def woven(book, chance):
    """A machine whose texts are begun first and then grown by a sign each, whichever's turn chance says it is."""
    machine = Machine()
    for text in book:
        machine.begin()
    turns = [number for number, text in enumerate(book) for sign in text]
    chance.shuffle(turns)
    grown = [0] * len(book)
    for number in turns:
        machine.grow(number, book[number][grown[number]])
        grown[number] += 1
    return machine


class Whole(unittest.TestCase):
    def setUp(self):
        chance = random.Random(3)
        self.books = looked.small_books()[::12] + looked.great_books()[:6]
        self.machines = [woven(book, chance) for book in self.books]

    def told(self):
        return [(machine.book(), machine.table()) for machine in self.machines]

    def test_grown_in_a_weaving_it_is_the_one_made_anew(self):
        for right, machine in zip(self.books, self.machines):
            self.assertEqual(machine.book(), right)
            self.assertEqual(machine.table(), Machine(right).table())

    def test_one_stand_just_for_words_with_the_same_places(self):
        for book, table in self.told():
            found = places_by(book, table)
            self.assertEqual(len({tuple(some) for some in found}), len(table))
            for stand in range(len(table)):
                for word in words(table, stand):
                    self.assertEqual(stand_of(table, word), stand)
                    self.assertEqual(places(book, word), found[stand])

    def test_a_stand_just_where_the_word_is_a_part(self):
        for book, table in self.told():
            for word in looked.all_words("abc", 4) + ["q", "aq", "zz"]:
                self.assertEqual(stand_of(table, word) is not None, looked.is_part(book, word), (book, word))

    def test_what_may_follow_parts_each_two_stands(self):
        for book, table in self.told():
            behind = [rests(book, table, stand) for stand in range(len(table))]
            self.assertEqual(len({tuple(some) for some in behind}), len(table))
            for one in range(0, len(table), 5):
                other = (one * 7 + 3) % len(table)
                if one != other:
                    text, rest, stand = parted(book, table, one, other)
                    self.assertIn((text, rest), behind[stand])
                    self.assertNotIn((text, rest), behind[one + other - stand])

    def test_at_most_twice_as_many_stands_as_signs(self):
        for book, table in self.told():
            self.assertLessEqual(len(table), max(1, 2 * signs_in(book)))

    def test_along_the_links_places_counts_and_texts_add_up(self):
        for book, table in self.told():
            found = places_by(book, table)
            many = counts(book, table)
            texts = texts_by(book, table)
            for stand in range(len(table)):
                longest = words(table, stand)[-1]
                own = [(number, len(longest)) for number, text in enumerate(book) if text.startswith(longest)]
                below = kids(table, stand)
                self.assertEqual(sorted(own + [place for kid in below for place in found[kid]]), found[stand])
                self.assertEqual(len(own) + sum(many[kid] for kid in below), many[stand])
                added = {number for number, end in own} | {number for kid in below for number in texts[kid]}
                self.assertEqual(sorted(added), texts[stand])

    def test_what_is_told_of_parts_is_what_one_finds(self):
        for book, table in self.told():
            parts = looked.parts_in_order(book)
            self.assertEqual(unlike(table), len(parts))
            for number in range(0, len(parts), 1 + len(parts) // 20):
                self.assertEqual(part_at(table, number), parts[number])
                self.assertEqual(number_of(table, parts[number]), number)
            for long in range(1, 9):
                self.assertEqual(counted(table, long), len([part for part in parts if len(part) == long]))
                self.assertEqual(parts_of(book, long), [part for part in parts if len(part) == long])
            everyone = list(range(len(book)))
            if book:
                self.assertEqual(shared(book, everyone), looked.shared(book, everyone))
            self.assertEqual(often(book, 2), looked.often(book, 2))
            self.assertEqual(once(book), looked.once(book))
            self.assertEqual(lacking(book, "ab"), looked.lacking(book, "ab"))
            self.assertEqual(full(book, "ab"), looked.full(book, "ab"))
            for word in ("", "abba", "bbbaaab", "ab" * 20):
                self.assertEqual(matches(table, word), looked.matches(book, word))
                self.assertEqual(pieces(table, word), looked.pieces(book, word))

    def test_read_from_their_texts_they_tell_the_same(self):
        for book, table in self.told():
            again = read_table(show_table(table))
            self.assertEqual(read_book(show_book(book)), book)
            self.assertEqual(again, Machine(read_book(show_book(book))).table())
            self.assertEqual(places_by(book, again), places_by(book, table))
