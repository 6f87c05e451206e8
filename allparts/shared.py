"""The texts of the stands, and the parts that texts share, that come often, that come once."""

from allparts.books import refuse_no_text
from allparts.links import places_by
from allparts.nodes import table_of
from allparts.walks import longest, shortest


def texts_by(book, table):
    return [texts_in(places) for places in places_by(book, table)]


def shared(book, some):
    for number in some:
        refuse_no_text(book, number)
    table = table_of(book)
    wanted = sorted(set(some))
    fitting = [stand for stand, texts in enumerate(texts_by(book, table)) if has_each(texts, wanted)]
    word = longest(table, stand_of_longest(table, fitting))
    return (word, [least_end(book[number], word) for number in some])


def often(book, times):
    table = table_of(book)
    found = places_by(book, table)
    fitting = [stand for stand in range(1, len(table)) if len(found[stand]) >= times]
    if len(fitting) == 0:
        return None
    stand = stand_of_longest(table, fitting)
    return (longest(table, stand), found[stand])


def once(book):
    table = table_of(book)
    # The stands are numbered in the order of their shortest words, shorter ones first: the first fits best.
    for stand, found in enumerate(places_by(book, table)):
        if stand > 0 and len(found) == 1:
            return (shortest(table, stand), found[0])
    return None


def texts_in(places):
    return sorted(set([place[0] for place in places]))


def has_each(texts, wanted):
    return all([number in texts for number in wanted])


def stand_of_longest(table, stands):
    # What holds of a word by its places holds of all words of its stand, so the longest words are enough.
    long = max([table[stand][1] for stand in stands])
    as_long = [stand for stand in stands if table[stand][1] == long]
    return min(as_long, key=lambda number: longest(table, number))


def least_end(text, word):
    return text.find(word) + len(word)
