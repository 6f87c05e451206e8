import unittest

from allparts.errors import NoStand, PartError
from allparts.links import chain, counts, firsts, kids, places_by
from allparts.machine import Machine
from tests import looked
from tests.own import hold_own, hold_own_within


class Tree(unittest.TestCase):
    def test_some_by_hand(self):
        table = Machine(["abb"]).table()
        self.assertEqual([chain(table, stand) for stand in range(5)], [[0], [1, 0], [2, 0], [3, 2, 0], [4, 2, 0]])
        self.assertEqual([kids(table, stand) for stand in range(5)], [[1, 2], [], [3, 4], [], []])

    def test_of_the_one_stand(self):
        for book in ([], [""], ["", ""]):
            table = Machine(book).table()
            self.assertEqual(chain(table, 0), [0])
            self.assertEqual(kids(table, 0), [])

    def test_chains_and_kids_of_every_stand(self):
        for book in looked.small_books() + looked.great_books():
            table = Machine(book).table()
            groups = looked.stands(book)
            found = looked.places_by_word(book)
            number = {word: k for k, group in enumerate(groups) for word in group}
            links = [looked.link_of(group[-1], found, number) for group in groups]
            for stand, group in enumerate(groups):
                self.assertEqual(chain(table, stand), looked.chain(group, found, number), (book, stand))
                self.assertEqual(kids(table, stand), [k for k, link in enumerate(links) if link == stand], (book, stand))

    def test_kinds(self):
        table = Machine(["abbab", "ba"]).table()
        for stand in range(len(table)):
            for told in (chain(table, stand), kids(table, stand)):
                self.assertIs(type(told), list)
                self.assertEqual({type(number) for number in told} - {int}, set())

    def test_no_stand(self):
        for book in ([], [""], ["a"], ["abb", "ba"], looked.great_books()[5]):
            table = Machine(book).table()
            for thing in looked.no_numbers_below(len(table)):
                for told in (chain, kids):
                    with self.assertRaises(PartError) as caught:
                        told(table, thing)
                    self.assertIs(type(caught.exception), NoStand, (book, thing))


class Places(unittest.TestCase):
    def test_some_by_hand(self):
        book = ["abb", "", "b"]
        table = Machine(book).table()
        self.assertEqual(
            places_by(book, table),
            [
                [(0, 0), (0, 1), (0, 2), (0, 3), (1, 0), (2, 0), (2, 1)],
                [(0, 1)],
                [(0, 2), (0, 3), (2, 1)],
                [(0, 2)],
                [(0, 3)],
            ],
        )
        self.assertEqual(counts(book, table), [7, 1, 3, 1, 1])
        self.assertEqual(firsts(book, table), [(0, 0), (0, 1), (0, 2), (0, 2), (0, 3)])

    def test_of_no_texts(self):
        table = Machine([]).table()
        self.assertEqual(places_by([], table), [[]])
        self.assertEqual(counts([], table), [0])
        self.assertEqual(firsts([], table), [None])

    def test_of_empty_texts(self):
        for many in range(1, 9):
            book = [""] * many
            table = Machine(book).table()
            self.assertEqual(places_by(book, table), [[(number, 0) for number in range(many)]])
            self.assertEqual(counts(book, table), [many])
            self.assertEqual(firsts(book, table), [(0, 0)])

    def test_held_against_looking(self):
        for book in looked.small_books() + looked.great_books():
            table = Machine(book).table()
            found = looked.places_by_word(book)
            places = [found[group[0]] for group in looked.stands(book)]
            self.assertEqual(places_by(book, table), places, book)
            self.assertEqual(counts(book, table), [len(some) for some in places], book)
            self.assertEqual(firsts(book, table), [some[0] if some else None for some in places], book)

    def test_places_and_counts_add_up_along_the_tree(self):
        for book in looked.small_books()[::5] + looked.great_books():
            table = Machine(book).table()
            places = places_by(book, table)
            many = counts(book, table)
            for stand, group in enumerate(looked.stands(book)):
                own = [(number, len(group[-1])) for number, text in enumerate(book) if text.startswith(group[-1])]
                added = own + [place for kid in kids(table, stand) for place in places[kid]]
                self.assertEqual(len(added), len(set(added)), (book, stand))
                self.assertEqual(places[stand], sorted(added), (book, stand))
                self.assertEqual(many[stand], len(own) + sum(many[kid] for kid in kids(table, stand)), (book, stand))

    def test_kinds(self):
        for book in ([], [""], ["abbab", "", "ba"]):
            table = Machine(book).table()
            self.assertIs(type(places_by(book, table)), list)
            for places in places_by(book, table):
                self.assertIs(type(places), list)
                for place in places:
                    self.assertIs(type(place), tuple)
                    self.assertEqual([type(number) for number in place], [int, int])
            self.assertIs(type(counts(book, table)), list)
            self.assertEqual({type(count) for count in counts(book, table)}, {int})
            self.assertIs(type(firsts(book, table)), list)
            self.assertEqual({type(place) for place in firsts(book, table)}, {tuple} if book else {type(None)})


class Own(unittest.TestCase):
    def test_told_lists_are_the_askers_own(self):
        book = ["abbab", "ba"]
        table = Machine(book).table()
        for tell in (lambda: chain(table, 4), lambda: kids(table, 0), lambda: counts(book, table), lambda: firsts(book, table)):
            hold_own(self, tell)

    def test_told_lists_within_lists_are_the_askers_own(self):
        for book in ([], ["", ""], ["abbab", "ba"], ["a", "a"]):
            table = Machine(book).table()
            hold_own_within(self, lambda: places_by(book, table))

    def test_nothing_handed_in_is_changed(self):
        book = ["abbab", "", "ba"]
        table = Machine(book).table()
        before = list(table)
        for stand in range(len(table)):
            chain(table, stand)
            kids(table, stand)
        for told in (places_by, counts, firsts):
            told(book, table)
        self.assertEqual(table, before)
        self.assertEqual(book, ["abbab", "", "ba"])

    def test_what_was_handed_in_and_changed_changes_no_later_answer(self):
        book = ["abb"]
        table = Machine(book).table()
        told = [chain(table, 4), kids(table, 2), places_by(book, table), counts(book, table), firsts(book, table)]
        book[0] = "zz"
        table.clear()
        places = [[(0, 0), (0, 1), (0, 2), (0, 3)], [(0, 1)], [(0, 2), (0, 3)], [(0, 2)], [(0, 3)]]
        self.assertEqual(told, [[4, 2, 0], [3, 4], places, [4, 1, 2, 1, 1], [(0, 0), (0, 1), (0, 2), (0, 2), (0, 3)]])
        book = ["abb"]
        self.assertEqual(places_by(book, Machine(book).table()), places)
