"""The tree that the links make, and the places of the stands, which add up along it."""

from allparts.walks import refuse_no_stand, walk


def chain(table, stand):
    refuse_no_stand(table, stand)
    met = []
    while stand is not None:
        met.append(stand)
        stand = table[stand][2]
    return met


def kids(table, stand):
    refuse_no_stand(table, stand)
    return [number for number, row in enumerate(table) if row[2] == stand]


def places_by(book, table):
    # The first signs of a text, up to an end, are the longest word that ends there, so of the stand that the
    # walk comes to it is an own place, and a place of just those in its chain. As texts and ends rise here,
    # each list is sorted as it is.
    found = [[] for row in table]
    for number, text in enumerate(book):
        for end, head in enumerate(walk(table, text)):
            for stand in chain(table, head):
                found[stand].append((number, end))
    return found


def counts(book, table):
    return [len(places) for places in places_by(book, table)]


def firsts(book, table):
    return [places[0] if len(places) > 0 else None for places in places_by(book, table)]
