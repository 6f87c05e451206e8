"""The shortest word over some letters that is no part."""

from allparts.nodes import table_of


def lacking(book, letters):
    # The parts over the letters are met shorter ones first, those as long in order: so the first that
    # a letter can't follow, and the first such letter, make the word.
    table = table_of(book)
    met = [("", 0)]
    done = 0
    while True:
        word = met[done][0]
        ways = dict(table[met[done][1]][3])
        for sign in letters:
            if sign not in ways:
                return word + sign
            met.append((word + sign, ways[sign]))
        done = done + 1


def full(book, letters):
    return len(lacking(book, letters)) - 1
