"""The marks that things share, the things that have marks, and what closing by a table makes of marks."""

from markhall.marks import are_among


def shared(table, things):
    rows = [table[1][thing] for thing in things]
    return tuple([mark for mark in range(table[0]) if all([mark in row for row in rows])])


def having(table, marks):
    return tuple([thing for thing, row in enumerate(table[1]) if are_among(marks, row)])


def closed(table, marks):
    return shared(table, having(table, marks))


def holds(table, rule):
    return all([are_among(rule[1], table[1][thing]) for thing in having(table, rule[0])])
