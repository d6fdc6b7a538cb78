"""Questions, each answered by yes or by a thing that speaks against it, to the base of what one knows."""

from markhall.closing import closed
from markhall.errors import NoAnswer, NoQuestion
from markhall.marks import all_marks, are_among, without
from markhall.rules import closed_by
from markhall.things import are_marks


def speaks_against(marks, rule):
    return are_among(rule[0], marks) and not are_among(rule[1], marks)


class Asker:
    def __init__(self, many):
        self.many = many
        self.table = (many, ())
        self.rules = ()

    def question(self):
        for marks in all_marks(self.many):
            whole = closed(self.table, marks)
            # Marks ahead in a rule that was said to hold lack what is behind it, so the rules add to them: they
            # are passed over here with those that are greater and lack it too.
            if whole != marks and closed_by(self.rules, marks) == marks:
                return (marks, without(whole, marks))
        return None

    def to_be_answered(self):
        rule = self.question()
        if rule is None:
            raise NoQuestion("there is no question to answer")
        return rule

    def yes(self):
        self.rules = self.rules + (self.to_be_answered(),)

    def no(self, marks):
        rule = self.to_be_answered()
        if not are_marks(marks, self.many):
            raise NoAnswer("what is answered are no marks of so many")
        if not speaks_against(marks, rule):
            raise NoAnswer("the marks do not speak against the question")
        if any([speaks_against(marks, said_rule) for said_rule in self.rules]):
            raise NoAnswer("the marks speak against a rule that was said to hold")
        self.table = (self.many, self.table[1] + (marks,))

    def known(self):
        return self.table

    def said(self):
        return self.rules

    def asked_so_far(self):
        # Each answer leaves just one thing or one rule behind.
        return len(self.table[1]) + len(self.rules)
