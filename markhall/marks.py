"""Some marks beside others, and all that there are of so many, in their order."""


def are_among(marks, others):
    return all([mark in others for mark in marks])


def in_both(one, other):
    return tuple([mark for mark in one if mark in other])


def in_either(one, other):
    return tuple(sorted(set(one) | set(other)))


def without(marks, others):
    return tuple([mark for mark in marks if mark not in others])


def one_more(level, many):
    longer = []
    for marks in level:
        # Only greater marks come behind, so that marks rise and come once; tuples in order stay in order.
        least = marks[-1] + 1 if marks else 0
        longer.extend([marks + (mark,) for mark in range(least, many)])
    return longer


def all_marks(many):
    told = []
    level = [()]
    while level:
        told.extend(level)
        level = one_more(level, many)
    return tuple(told)
