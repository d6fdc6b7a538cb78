"""What the document says of rules, bases and questions, word by word and without the program."""

from tests.samples import all_marks, all_rules


def in_order(rows):
    return sorted(rows, key=lambda marks: (len(marks), marks))


def is_less(marks, others):
    return set(marks) < set(others)


def against(marks, rule):
    return set(rule[0]) <= set(marks) and not set(rule[1]) <= set(marks)


def in_all(rows, many):
    return tuple(mark for mark in range(many) if all(mark in row for row in rows))


def closing_within(rows, many):
    return {marks: in_all([row for row in rows if set(row) >= set(marks)], many) for marks in all_marks(many)}


def table_closing(table):
    return closing_within(table[1], table[0])


def kept(rules, many):
    return [marks for marks in all_marks(many) if not any(against(marks, rule) for rule in rules)]


def rules_closing(rules, many):
    return closing_within(kept(rules, many), many)


def nearly_closed(closing):
    told = {}

    def is_one(marks):
        if marks not in told:
            less = [others for others in closing if is_less(others, marks) and is_one(others)]
            told[marks] = closing[marks] != marks and all(set(closing[others]) <= set(marks) for others in less)
        return told[marks]

    return in_order(marks for marks in closing if is_one(marks))


def added(marks, more):
    return tuple(mark for mark in more if mark not in marks)


def base_by(closing):
    return tuple((marks, added(marks, closing[marks])) for marks in nearly_closed(closing))


def rules_that_hold(closing, many):
    return [rule for rule in all_rules(many) if set(rule[1]) <= set(closing[rule[0]])]


def question_of(table, rules):
    closing = table_closing(table)
    for marks in all_marks(table[0]):
        ahead = [rule for rule in rules if is_less(rule[0], marks)]
        if closing[marks] == marks or marks in [rule[0] for rule in rules]:
            continue
        if all(set(rule[1]) <= set(marks) for rule in ahead):
            return (marks, added(marks, closing[marks]))
    return None
