"""Holds that told lists are the asker's own: what is done to one changes no other one, and no later answer."""


def hold_own(case, tell):
    before = list(tell())
    kept = tell()
    tell().append(7)
    tell().clear()
    case.assertEqual(tell(), before)
    case.assertEqual(kept, before)


def hold_own_within(case, tell):
    """The same of a told list of lists, and of each list within it."""
    before = [list(within) for within in tell()]
    kept = tell()
    told = tell()
    for number, within in enumerate(told):
        others = told[:number] + told[number + 1:]
        copies = [list(other) for other in others]
        within.append(7)
        case.assertEqual(others, copies)
    told.clear()
    case.assertEqual(tell(), before)
    case.assertEqual(kept, before)
