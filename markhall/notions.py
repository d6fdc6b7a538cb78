"""The notions of a table, by their numbers, and how they lie below one another."""

from markhall.closing import closed, having
from markhall.marks import all_marks, are_among, in_both, in_either


def closed_marks(table):
    return [marks for marks in all_marks(table[0]) if closed(table, marks) == marks]


def notions(table):
    return tuple([(having(table, marks), marks) for marks in closed_marks(table)])


def number_of(table, marks):
    return closed_marks(table).index(closed(table, marks))


def is_below(notion, other):
    return notion[0] != other[0] and are_among(notion[0], other[0])


def numbers_above(told, notion):
    return [number for number, other in enumerate(told) if is_below(notion, other)]


def above_each(table):
    told = notions(table)
    return [numbers_above(told, notion) for notion in told]


def below(table):
    pairs = []
    for one, above in enumerate(above_each(table)):
        pairs.extend([(one, other) for other in above])
    return tuple(pairs)


def has_between(above, one, other):
    return any([other in above[third] for third in above[one]])


def next_below(table):
    above = above_each(table)
    pairs = []
    for one in range(len(above)):
        pairs.extend([(one, other) for other in above[one] if not has_between(above, one, other)])
    return tuple(pairs)


# Marks that two notions both have are closed already; marks that either has may not be.
def join(table, one, other):
    known = closed_marks(table)
    return known.index(in_both(known[one], known[other]))


def meet(table, one, other):
    known = closed_marks(table)
    return known.index(closed(table, in_either(known[one], known[other])))
