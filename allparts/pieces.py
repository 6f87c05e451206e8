"""How far a word's signs go along with parts, and how it is put together of as few parts as can be."""

from allparts.links import chain
from allparts.walks import walk


def matches(table, word):
    # Of the signs gone by, the longest tail that is a part: its stand, and how long it is.
    tail = (0, 0)
    found = [0]
    for sign in word:
        tail = tail_behind(table, tail[0], tail[1], sign)
        found.append(tail[1])
    return found


def tail_behind(table, stand, long, sign):
    # Where the sign can't follow a word, it can follow no other word of the same stand either. So the tail
    # is cut down to the longest words of the links, one behind another, until the sign can follow.
    for kept in chain(table, stand):
        ways = dict(table[kept][3])
        if sign in ways:
            return (ways[sign], min(long, table[kept][1]) + 1)
    return (0, 0)


def pieces(table, word):
    # What is left of a part, its beginning cut off, is a part too. So a longer piece never asks for more
    # pieces behind it, and the longest one each time makes as few as can be.
    found = []
    done = 0
    while done < len(word):
        long = len(walk(table, word[done:])) - 1
        if long == 0:
            return None
        found.append(word[done:done + long])
        done = done + long
    return found
