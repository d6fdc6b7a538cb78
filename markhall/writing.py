"""Tables and rules written as texts."""

from markhall.errors import NoThing
from markhall.things import are_rules, is_table


def mark_words(marks):
    return [str(mark) for mark in marks]


# The refusals have fixed words: what is refused may hold a number too long for Python to show.
def written(table):
    if not is_table(table):
        raise NoThing("what is to be written is no table")
    words = ["table", str(table[0])]
    for row in table[1]:
        words.extend(["thing"] + mark_words(row) + ["end"])
    return " ".join(words)


def shown(rules, many):
    if not are_rules(rules, many):
        raise NoThing("what is to be shown are no rules of so many marks")
    words = ["rules", str(many)]
    for rule in rules:
        words.extend(["if"] + mark_words(rule[0]) + ["then"] + mark_words(rule[1]) + ["end"])
    return " ".join(words)
