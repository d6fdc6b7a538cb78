"""Tables and rules read from the texts that are their writings."""

from markhall.errors import NoText
from markhall.things import MOST_MARKS, are_rules, is_table


def marks_of(words, many):
    # Words are held against the numbers as they are written: int would take signs, noughts ahead and more.
    known = [str(mark) for mark in range(many)]
    if not all([word in known for word in words]):
        raise NoText("a word that is no mark stands in the place of one")
    return tuple([known.index(word) for word in words])


def parts_of(words):
    parts = []
    part = []
    for word in words:
        if word == "end":
            parts.append(part)
            part = []
        else:
            part.append(word)
    if part:
        raise NoText("the last words have no end")
    return parts


def row_of(part, many):
    if part[:1] != ["thing"]:
        raise NoText("what should be a thing does not begin as one")
    return marks_of(part[1:], many)


def rule_of(part, many):
    if part[:1] != ["if"] or "then" not in part:
        raise NoText("what should be a rule has no if or no then")
    middle = part.index("then")
    return (marks_of(part[1:middle], many), marks_of(part[middle + 1:], many))


def read(text):
    words = text.split(" ")
    heads = [["table", str(number)] for number in range(1, MOST_MARKS + 1)]
    if words[:2] not in heads:
        raise NoText("the text does not begin as a table")
    many = heads.index(words[:2]) + 1
    table = (many, tuple([row_of(part, many) for part in parts_of(words[2:])]))
    if not is_table(table):
        raise NoText("what the text tells is no table")
    return table


def read_rules(text, many):
    words = text.split(" ")
    if words[:2] != ["rules", str(many)]:
        raise NoText("the text does not begin as rules of so many marks")
    rules = tuple([rule_of(part, many) for part in parts_of(words[2:])])
    if not are_rules(rules, many):
        raise NoText("what the text tells are no rules of so many marks")
    return rules
