import unittest

from markhall.errors import NoThing
from markhall.writing import shown, written
from tests.cases import AnswerCase
from tests.samples import NO_MANY, NO_MARKS, NO_ROWS, NO_RULES, NOTHINGS


class WritingCase(AnswerCase):
    def refused(self, asked, *given):
        self.refuse(NoThing, asked, *given)


class TestWritten(WritingCase):
    def test_ordinary_tables(self):
        self.tell("table 3 thing 0 1 end thing 1 2 end", written, (3, ((0, 1), (1, 2))))
        self.tell("table 4 thing 0 end thing end thing 0 1 2 3 end", written, (4, ((0,), (), (0, 1, 2, 3))))
        self.tell("table 2 thing 1 end thing 1 end thing 0 end", written, (2, ((1,), (1,), (0,))))

    def test_edges(self):
        self.tell("table 1", written, (1, ()))
        self.tell("table 6", written, (6, ()))
        self.tell("table 1 thing end", written, (1, ((),)))
        self.tell("table 1 thing 0 end", written, (1, ((0,),)))
        self.tell("table 6 thing 0 1 2 3 4 5 end", written, (6, ((0, 1, 2, 3, 4, 5),)))
        self.tell("table 6 thing 5 end", written, (6, ((5,),)))
        self.tell("table 5" + " thing 0 4 end" * 64, written, (5, ((0, 4),) * 64))
        self.tell("table 5" + " thing end" * 64, written, (5, ((),) * 64))

    def test_how_many_marks_and_things_are_refused(self):
        for many in NO_MANY:
            self.refused(written, (many, ()))
            self.refused(written, (many, ((),)))
        self.refused(written, (7, ((6,),)))
        self.refused(written, (3, ((),) * 65))
        self.refused(written, (3, ((0,),) * 65))

    def test_a_mark_of_the_number_many_is_refused(self):
        for many in range(1, 7):
            self.refused(written, (many, ((many,),)))

    def test_wrong_ones_are_refused(self):
        for thing in NOTHINGS:
            self.refused(written, thing)
        for rows in NO_ROWS:
            self.refused(written, (3, rows))
        for marks in NO_MARKS:
            self.refused(written, (3, (marks,)))
            self.refused(written, (3, ((0,), marks, ())))

    def test_rules_are_no_table(self):
        self.refused(written, ())
        self.refused(written, (((0,), (1,)),))
        self.refused(written, (((0,), (1,)), ((1,), (2,))))


class TestShown(WritingCase):
    def test_ordinary_rules(self):
        self.tell("rules 3 if 0 then 1 2 end", shown, (((0,), (1, 2)),), 3)
        self.tell("rules 4 if 0 1 then 3 end if 2 then 0 end", shown, (((0, 1), (3,)), ((2,), (0,))), 4)
        self.tell("rules 2 if 1 then 1 end if 1 then 1 end", shown, (((1,), (1,)), ((1,), (1,))), 2)

    def test_edges(self):
        self.tell("rules 1", shown, (), 1)
        self.tell("rules 6", shown, (), 6)
        self.tell("rules 1 if then end", shown, (((), ()),), 1)
        self.tell("rules 3 if then 0 2 end", shown, (((), (0, 2)),), 3)
        self.tell("rules 3 if 0 2 then end", shown, (((0, 2), ()),), 3)
        self.tell("rules 6 if 0 1 2 3 4 5 then 5 end", shown, (((0, 1, 2, 3, 4, 5), (5,)),), 6)
        self.tell("rules 2" + " if 0 then 1 end" * 64, shown, (((0,), (1,)),) * 64, 2)

    def test_the_same_rules_of_more_marks(self):
        rules = (((0,), (1,)),)
        for many in range(2, 7):
            self.tell("rules " + str(many) + " if 0 then 1 end", shown, rules, many)
        self.refused(shown, rules, 1)

    def test_many_beyond_its_bounds_is_not_refused(self):
        self.tell("rules 7 if 0 then 6 end", shown, (((0,), (6,)),), 7)
        self.tell("rules 0 if then end", shown, (((), ()),), 0)

    def test_more_than_64_are_refused(self):
        self.refused(shown, (((), ()),) * 65, 1)
        self.refused(shown, (((0,), (1,)),) * 65, 2)

    def test_a_mark_of_the_number_many_is_refused(self):
        for many in range(1, 7):
            self.refused(shown, (((many,), ()),), many)
            self.refused(shown, (((), (many,)),), many)

    def test_wrong_ones_are_refused(self):
        for thing in NOTHINGS:
            self.refused(shown, thing, 3)
        for marks in NO_MARKS:
            self.refused(shown, ((marks, (0,)),), 3)
            self.refused(shown, (((0,), marks),), 3)
            self.refused(shown, (((0,), (1,)), ((), marks)), 3)
        for part in NO_RULES:
            self.refused(shown, (part,), 3)
            self.refused(shown, (((0,), (1,)), part), 3)

    def test_a_rule_by_itself_and_a_table_are_no_rules(self):
        self.refused(shown, ((0,), (1,)), 3)
        self.refused(shown, ((), ()), 3)
        self.refused(shown, (3, ()), 3)
        self.refused(shown, (3, ((0,),)), 3)


if __name__ == "__main__":
    unittest.main()
