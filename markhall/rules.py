"""What closing by rules makes of marks, and which rules follow from others."""

from markhall.marks import are_among, in_either


def one_turn(rules, marks):
    for ahead, behind in rules:
        if are_among(ahead, marks):
            marks = in_either(marks, behind)
    return marks


def closed_by(rules, marks):
    # A rule may come to tell more by what stands behind a later one, so turns go on until one adds nothing.
    more = one_turn(rules, marks)
    while more != marks:
        marks = more
        more = one_turn(rules, marks)
    return marks


def follows(rules, rule):
    return are_among(rule[1], closed_by(rules, rule[0]))
