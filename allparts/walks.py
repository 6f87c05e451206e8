"""Walks through a table by a word's signs, and the words of its stands."""

from allparts.books import is_whole
from allparts.errors import NoStand


def walk(table, word):
    stands = [0]
    for sign in word:
        ways = dict(table[stands[-1]][3])
        if sign not in ways:
            return stands
        stands.append(ways[sign])
    return stands


def stand_of(table, word):
    stands = walk(table, word)
    return stands[-1] if len(stands) == len(word) + 1 else None


def longest(table, stand):
    refuse_no_stand(table, stand)
    before = steps_before(table)
    word = ""
    while stand != 0:
        step = before[stand]
        word = step[1] + word
        stand = step[0]
    return word


def shortest(table, stand):
    word = longest(table, stand)
    return word[len(word) - table[stand][0]:]


def words(table, stand):
    word = longest(table, stand)
    return [word[len(word) - long:] for long in range(table[stand][0], table[stand][1] + 1)]


def refuse_no_stand(table, stand):
    if not is_whole(stand) or not 0 <= stand < len(table):
        raise NoStand("there is no stand of this number")


def steps_before(table):
    # The longest word of a stand, less its last sign, is the longest one of another stand: were there
    # a longer one, the sign could stand behind that too. So the lengths alone tell a stand's last step.
    before = {}
    for number, row in enumerate(table):
        for way in row[3]:
            if table[way[1]][1] == row[1] + 1:
                before[way[1]] = (number, way[0])
    return before
