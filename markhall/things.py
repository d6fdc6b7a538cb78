"""What marks, tables, a rule and rules are."""

MOST_MARKS = 6
MOST_ROWS = 64
MOST_RULES = 64


def is_whole(thing):
    # Python counts truths among its ints, the document does not.
    return isinstance(thing, int) and not isinstance(thing, bool)


def is_pair(thing):
    return isinstance(thing, tuple) and len(thing) == 2


def are_marks(thing, many):
    if not isinstance(thing, tuple):
        return False
    least = 0
    for mark in thing:
        if not is_whole(mark) or not least <= mark < many:
            return False
        # A mark at least this great is one that neither falls nor stands twice.
        least = mark + 1
    return True


def is_table(thing):
    if not is_pair(thing):
        return False
    many = thing[0]
    rows = thing[1]
    if not is_whole(many) or not 1 <= many <= MOST_MARKS:
        return False
    if not isinstance(rows, tuple) or len(rows) > MOST_ROWS:
        return False
    return all([are_marks(row, many) for row in rows])


def is_rule(thing, many):
    return is_pair(thing) and are_marks(thing[0], many) and are_marks(thing[1], many)


def are_rules(thing, many):
    if not isinstance(thing, tuple) or len(thing) > MOST_RULES:
        return False
    return all([is_rule(part, many) for part in thing])
