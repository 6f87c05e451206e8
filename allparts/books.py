"""Whole numbers, words and books; where a word ends in a book, and the parts of a length."""

from allparts.errors import NoText

MOST_WORD_SIGNS = 200
MOST_TEXTS = 8
MOST_SIGNS = 120


def is_whole(thing):
    # To Python a truth is an int too, but here it is no number.
    return isinstance(thing, int) and not isinstance(thing, bool)


def has_only_signs(thing):
    return isinstance(thing, str) and all(["a" <= sign <= "z" for sign in thing])


def is_word(thing):
    return has_only_signs(thing) and len(thing) <= MOST_WORD_SIGNS


def is_book(thing):
    if not isinstance(thing, list) or len(thing) > MOST_TEXTS:
        return False
    return all([has_only_signs(text) for text in thing]) and signs_in(thing) <= MOST_SIGNS


def refuse_no_text(book, number):
    if not is_whole(number) or not 0 <= number < len(book):
        raise NoText("there is no text of this number")


def signs_in(book):
    return sum([len(text) for text in book])


def places(book, word):
    found = []
    for number, text in enumerate(book):
        ends = [end for end in range(len(text) + 1) if text[:end].endswith(word)]
        found.extend([(number, end) for end in ends])
    return found


def parts_of(book, long):
    # The empty word is a part by leave, so it is not looked for: there may be no text to find it in.
    if long == 0:
        return [""]
    found = []
    for text in book:
        found.extend([text[start:start + long] for start in range(len(text) - long + 1)])
    return sorted(set(found))
