"""What may follow behind a stand, up to a text's end, and by what of it two stands are parted."""

from allparts.links import places_by
from allparts.walks import refuse_no_stand


def rests(book, table, stand):
    refuse_no_stand(table, stand)
    return sorted([(text, book[text][end:]) for text, end in places_by(book, table)[stand]])


def parted(book, table, one, other):
    # Both are asked for their rests ahead of all else, as each may be refused.
    behind_one = rests(book, table, one)
    behind_other = rests(book, table, other)
    if one == other:
        return None
    first = sorted(set(behind_one) ^ set(behind_other))[0]
    return (first[0], first[1], one if first in behind_one else other)
