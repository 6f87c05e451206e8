"""How many parts there are, and their numbers in order."""

from allparts.walks import stand_of, walk


def unlike(table):
    return sum([row[1] - row[0] + 1 for row in table[1:]])


def counted(table, long):
    # A stand has one word of each length from its shortest word's to its longest one's.
    return len([row for row in table if row[0] <= long <= row[1]])


def part_at(table, number):
    onward = onward_counts(table)
    if not 0 <= number < onward[0] - 1:
        return None
    word = ""
    ways = table[0][3]
    # How many of the parts that begin with the word are ahead of the one looked for. The first of them is
    # the word itself, and so at the beginning the empty one, which has no number.
    ahead = number + 1
    while ahead > 0:
        ahead = ahead - 1
        way = way_toward(ways, onward, ahead)
        ahead = ahead - onward_below(ways, onward, way[0])
        word = word + way[0]
        ways = table[way[1]][3]
    return word


def number_of(table, word):
    if word == "" or stand_of(table, word) is None:
        return None
    onward = onward_counts(table)
    # Ahead of the word is each shorter beginning of it, and behind that all that goes on by a lesser sign.
    ahead = 0
    for sign, stand in zip(word, walk(table, word)):
        ahead = ahead + 1 + onward_below(table[stand][3], onward, sign)
    # The empty word was counted too, but has no number.
    return ahead - 1


def onward_counts(table):
    # How many walks go on from each stand, that of no step too: so many parts begin with a word of it.
    # A way leads to a longer longest word, so the stands of longer ones are counted first.
    onward = [1 for row in table]
    for stand in sorted(range(len(table)), key=lambda number: table[number][1], reverse=True):
        onward[stand] = 1 + sum([onward[way[1]] for way in table[stand][3]])
    return onward


def onward_below(ways, onward, sign):
    return sum([onward[way[1]] for way in ways if way[0] < sign])


def way_toward(ways, onward, ahead):
    # Of the ways that have at most so many parts ahead of theirs, the last one leads to the part itself.
    return [way for way in ways if onward_below(ways, onward, way[0]) <= ahead][-1]
