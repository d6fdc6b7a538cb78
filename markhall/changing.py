"""Tables turned about, cut to some marks, put beside one another, or told by the fewest rows."""

from markhall.closing import having, shared
from markhall.errors import NoRoom
from markhall.things import MOST_MARKS, MOST_ROWS


def about(table):
    many_things = len(table[1])
    if not 1 <= many_things <= MOST_MARKS:
        raise NoRoom("so many things can't be marks")
    return (many_things, tuple([having(table, (mark,)) for mark in range(table[0])]))


def places_in(row, marks):
    return tuple([place for place, mark in enumerate(marks) if mark in row])


def only(table, marks):
    if not marks:
        raise NoRoom("a table has one mark at least")
    return (len(marks), tuple([places_in(row, marks) for row in table[1]]))


def beside(one, other):
    if one[0] != other[0]:
        raise NoRoom("the tables are not of as many marks")
    rows = one[1] + other[1]
    if len(rows) > MOST_ROWS:
        raise NoRoom("the things of both are too many for one table")
    return (one[0], rows)


def things_above(table, row):
    return [thing for thing in having(table, row) if table[1][thing] != row]


def is_spared(table, row):
    # One greater row alone, or some that are all alike, share more than the row has; none share all marks.
    return shared(table, things_above(table, row)) == row


def plain(table):
    # Sorting by length leaves rows of one length as they stood, by the order of tuples.
    rows = sorted(sorted(set(table[1])), key=len)
    return (table[0], tuple([row for row in rows if not is_spared(table, row)]))
