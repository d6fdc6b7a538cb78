"""The base of a table and of rules, and the table in which just the rules that follow hold."""

from markhall.closing import closed
from markhall.marks import all_marks, without
from markhall.rules import closed_by


# All marks that are less than others come ahead of them, so the nearly closed ones among them are found by then;
# marks have what closing makes of each of these just if the rules found so far add nothing to them.
def base_from(closings):
    found = ()
    for marks, whole in closings:
        if marks != whole and closed_by(found, marks) == marks:
            found = found + ((marks, without(whole, marks)),)
    return found


def base(table):
    return base_from([(marks, closed(table, marks)) for marks in all_marks(table[0])])


def base_of(rules, many):
    return base_from([(marks, closed_by(rules, marks)) for marks in all_marks(many)])


def table_of(rules, many):
    return (many, tuple([marks for marks in all_marks(many) if closed_by(rules, marks) == marks]))
