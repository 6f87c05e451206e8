"""What the document says of a book, found by looking through all its parts; and the books that tests use."""

import itertools
import random

LETTERS = "abcdefghijklmnopqrstuvwxyz"

NO_NUMBERS = (True, False, None, "0", "", "a", 0.0, 1.5, [], [0], (), (0,), {}, object())


def no_numbers_below(count):
    """Things that are no whole number from 0 on that is less than count."""
    numbers = (-1, -2, -count - 1, count, count + 1, 300, 10 ** 59, -(10 ** 59), 10 ** 60 - 1, 1 - 10 ** 60)
    return numbers + NO_NUMBERS


def places_by_word(book):
    found = {"": []}
    for number, text in enumerate(book):
        for end in range(len(text) + 1):
            for start in range(end + 1):
                found.setdefault(text[start:end], []).append((number, end))
    return {word: sorted(places) for word, places in found.items()}


def stands(book):
    """The lists of the words with the same places, shortest word first, in the order of the stands."""
    groups = {}
    for word, places in places_by_word(book).items():
        groups.setdefault(tuple(places), []).append(word)
    ordered = [sorted(group, key=len) for group in groups.values()]
    return sorted(ordered, key=lambda group: (len(group[0]), group[0]))


def table(book):
    found = places_by_word(book)
    groups = stands(book)
    number = {word: k for k, group in enumerate(groups) for word in group}
    return [
        (len(group[0]), len(group[-1]), link_of(group[-1], found, number), ways_of(group, number))
        for group in groups
    ]


def link_of(word, found, number):
    for start in range(1, len(word) + 1):
        if found[word[start:]] != found[word]:
            return number[word[start:]]
    return None


def ways_of(group, number):
    ways = []
    for sign in LETTERS:
        behind = {number.get(word + sign) for word in group}
        if behind != {None}:
            assert len(behind) == 1, (group, sign)
            ways.append((sign, behind.pop()))
    return tuple(ways)


def chain(group, found, number):
    """The numbers of the stands of all tails of a stand's longest word, each once, the longest tail's first."""
    tails = [group[-1][start:] for start in range(len(group[-1]) + 1)]
    return list(dict.fromkeys(number[tail] for tail in tails))


def parts_in_order(book):
    return sorted(word for word in places_by_word(book) if word != "")


def shared(book, some):
    parts = [word for word in places_by_word(book) if all(word in book[number] for number in some)]
    word = min(parts, key=lambda part: (-len(part), part))
    ends = [min(end for end in range(len(book[number]) + 1) if book[number][:end].endswith(word)) for number in some]
    return (word, ends)


def often(book, times):
    found = places_by_word(book)
    parts = [word for word in found if word != "" and len(found[word]) >= times]
    if not parts:
        return None
    word = min(parts, key=lambda part: (-len(part), part))
    return (word, found[word])


def once(book):
    found = places_by_word(book)
    parts = [word for word in found if word != "" and len(found[word]) == 1]
    if not parts:
        return None
    word = min(parts, key=lambda part: (len(part), part))
    return (word, found[word][0])


def lacking(book, letters):
    found = places_by_word(book)
    for long in itertools.count(1):
        for signs in itertools.product(letters, repeat=long):
            if "".join(signs) not in found:
                return "".join(signs)


def full(book, letters):
    found = places_by_word(book)
    long = 0
    while all("".join(signs) in found for signs in itertools.product(letters, repeat=long + 1)):
        long += 1
    return long


def is_part(book, word):
    return word == "" or any(word in text for text in book)


def matches(book, word):
    found = []
    for end in range(len(word) + 1):
        tails = [word[start:end] for start in range(end + 1)]
        found.append(max(len(tail) for tail in tails if is_part(book, tail)))
    return found


def best_pieces(choices):
    """Of lists of pieces the ones of fewest, and of these the one of the longest pieces, from the first on."""
    return min(choices, key=lambda some: (len(some), [-len(piece) for piece in some]))


def pieces(book, word):
    """The best pieces of each rest of the word, the shortest rest first, by trying every part that it begins with."""
    best = {len(word): []}
    for start in reversed(range(len(word))):
        ends = [end for end in range(start + 1, len(word) + 1) if end in best and is_part(book, word[start:end])]
        if ends:
            best[start] = best_pieces([word[start:end]] + best[end] for end in ends)
    return best.get(0)


def cuts(word):
    """All lists of words but the empty one that make the word, one behind another."""
    found = [[]] if word == "" else []
    for end in range(1, len(word) + 1):
        found += [[word[:end]] + behind for behind in cuts(word[end:])]
    return found


def rests_by(book):
    """For each stand, in order, the sorted tuples (text, rest) that are behind it."""
    found = places_by_word(book)
    return [sorted((text, book[text][end:]) for text, end in found[group[0]]) for group in stands(book)]


def parted(rests, one, other):
    found = [(text, rest, one) for text, rest in rests[one] if (text, rest) not in rests[other]]
    found += [(text, rest, other) for text, rest in rests[other] if (text, rest) not in rests[one]]
    return min(found, default=None)


def all_words(letters, most):
    return ["".join(signs) for long in range(most + 1) for signs in itertools.product(letters, repeat=long)]


def chance_word(chance, letters, most):
    return "".join(chance.choice(letters) for sign in range(chance.randint(0, most)))


def small_books():
    books = [[], [""], ["", ""], [""] * 8, ["a"], ["z"], ["a", ""], ["", "a"], ["a", "a"], ["a", "b"], ["b", "a"]]
    books += [["a" * long] for long in range(2, 9)]
    books += [["abcab", "abc"], ["abc", "abcab"], ["abcab", "cab"], ["cab", "abcab"], ["abcab", "abcab"]]
    books += [["abcbc"], ["abbb"], ["abbbc"], ["aabbabb"], ["ab", "bab", "abab", "babab"], ["abab", "", "abab", "b"]]
    books += [["zyx", "xyz", "yy"], [LETTERS], ["a", "b", "c", "d", "e", "f", "g", "h"]]
    books += [[text] for text in all_words("ab", 6)]
    books += [[text] for text in all_words("abc", 4)]
    books += [list(texts) for texts in itertools.product(all_words("ab", 3), repeat=2)]
    books += [list(texts) for texts in itertools.product(all_words("ab", 2), repeat=3)]
    chance = random.Random(1)
    for count in range(200):
        letters = chance.choice(["ab", "abc", "xyz", "aab"])
        books.append([chance_word(chance, letters, 7) for text in range(chance.randint(1, 8))])
    return books


def great_books():
    """Books of 120 signs."""
    fibonacci = ["b", "a"]
    while len(fibonacci[-1]) < 120:
        fibonacci.append(fibonacci[-1] + fibonacci[-2])
    chance = random.Random(2)
    one = "".join(chance.choice("ab") for sign in range(120))
    many = ["".join(chance.choice("ab") for sign in range(15)) for text in range(8)]
    wide = "".join(chance.choice(LETTERS) for sign in range(120))
    return [
        ["a" * 120],
        ["a" * 15] * 8,
        ["a" + "b" * 119],
        ["a" + "b" * 118 + "c"],
        [fibonacci[-1][:120]],
        [one],
        [one[:60], one[60:]],
        [one[:60], one[:60]],
        [one[:60], one[10:60], one[:10]],
        many,
        [wide],
        [wide[:100], "", wide[80:100]],
    ]
