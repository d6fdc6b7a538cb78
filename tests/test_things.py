import copy
import itertools
import unittest

from markhall.things import are_marks, are_rules, is_rule, is_table
from tests.samples import NO_MANY, NO_MARKS, NO_ROWS, NO_RULES, NOTHINGS, all_marks, nested


def put_for(parts, place, part):
    return parts[:place] + (part,) + parts[place + 1:]


class ThingCase(unittest.TestCase):
    # The answer is to be a truth itself, the same when asked again, with nothing changed.
    def tell(self, expected, asked, *given):
        before = copy.deepcopy(given)
        told = asked(*given)
        again = asked(*given)
        with self.subTest(asked=asked.__name__):
            self.assertIs(told, expected)
            self.assertIs(again, expected)
            self.assertTrue(given == before)


class TestMarks(ThingCase):
    def test_all_marks_of_each_many(self):
        for many in range(1, 7):
            for marks in all_marks(many):
                self.tell(True, are_marks, marks, many)

    def test_just_the_rising_tuples_are_marks(self):
        signs = (-1, 0, 1, 2, 3, True, False, None, "0", (), (0,), [], [0])
        for many in range(1, 4):
            # Told apart by how they are shown, for (True,) == (1,).
            known = {repr(marks) for marks in all_marks(many)}
            for size in range(4):
                for thing in itertools.product(signs, repeat=size):
                    self.assertIs(are_marks(thing, many), repr(thing) in known, (thing, many))

    def test_no_marks_at_all(self):
        for many in range(1, 7):
            self.tell(True, are_marks, (), many)

    def test_a_mark_of_the_number_many(self):
        for many in range(1, 7):
            self.tell(True, are_marks, (many - 1,), many)
            self.tell(False, are_marks, (many,), many)
            self.tell(False, are_marks, tuple(range(many + 1)), many)

    def test_wrong_ones(self):
        for thing in NO_MARKS:
            self.tell(False, are_marks, thing, 3)
        for thing in NOTHINGS:
            for many in range(1, 7):
                self.tell(False, are_marks, thing, many)

    def test_many_beyond_its_bounds_is_not_refused(self):
        self.tell(True, are_marks, (0, 6), 7)
        self.tell(False, are_marks, (0, 7), 7)
        self.tell(True, are_marks, (), 0)
        self.tell(False, are_marks, (0,), 0)


class TestTable(ThingCase):
    def test_ordinary_tables(self):
        self.tell(True, is_table, (3, ((0, 1), (1, 2), (), (0, 1, 2))))
        self.tell(True, is_table, (2, ((0,), (0,), (1,))))
        self.tell(True, is_table, (4, ((3,), (1,), (0, 2))))

    def test_from_one_to_six_marks(self):
        for many in range(1, 7):
            self.tell(True, is_table, (many, ()))
            self.tell(True, is_table, (many, ((),)))
            self.tell(True, is_table, (many, (tuple(range(many)),)))
            self.tell(True, is_table, (many, tuple(all_marks(many))))

    def test_no_other_number_of_marks_nor_what_is_no_number(self):
        for many in NO_MANY:
            self.tell(False, is_table, (many, ()))
            self.tell(False, is_table, (many, ((),)))
        self.tell(False, is_table, (7, (tuple(range(7)),)))

    def test_how_many_things(self):
        for row in ((), (0,), (0, 1, 2)):
            for size in (0, 1, 63, 64):
                self.tell(True, is_table, (3, (row,) * size))
            for size in (65, 66, 200):
                self.tell(False, is_table, (3, (row,) * size))

    def test_a_mark_of_the_number_many(self):
        for many in range(1, 7):
            self.tell(True, is_table, (many, ((), (many - 1,))))
            self.tell(False, is_table, (many, ((), (many,))))

    def test_one_wrong_row_wherever_it_stands(self):
        rows = ((0, 1), (), (2,))
        for place in range(3):
            for row in NO_MARKS:
                self.tell(False, is_table, (3, put_for(rows, place, row)))
        self.tell(False, is_table, (3, ((),) * 63 + ((3,),)))

    def test_wrong_rows(self):
        for rows in NO_ROWS:
            self.tell(False, is_table, (3, rows))

    def test_no_pair(self):
        for thing in ((), (3,), (3, (), ()), (3, ((0,),), None), [3, ()], [3, ((0,),)], ((0,),), ((), 3)):
            self.tell(False, is_table, thing)

    def test_wrong_ones(self):
        for thing in NOTHINGS:
            self.tell(False, is_table, thing)
        for depth in range(31):
            self.tell(False, is_table, (3, nested(depth + 2, (), tuple)))
            self.tell(False, is_table, nested(depth + 1, (3, ()), tuple))


class TestRule(ThingCase):
    def test_all_rules_of_few_marks(self):
        for many in range(1, 5):
            for ahead in all_marks(many):
                for behind in all_marks(many):
                    self.tell(True, is_rule, (ahead, behind), many)

    def test_no_marks_ahead_or_behind(self):
        for many in range(1, 7):
            self.tell(True, is_rule, ((), ()), many)
            self.tell(True, is_rule, ((), (0,)), many)
            self.tell(True, is_rule, ((0,), ()), many)

    def test_a_mark_of_the_number_many(self):
        for many in range(1, 7):
            self.tell(True, is_rule, ((many - 1,), (many - 1,)), many)
            self.tell(False, is_rule, ((many,), ()), many)
            self.tell(False, is_rule, ((), (many,)), many)

    def test_wrong_marks_ahead_or_behind(self):
        for marks in NO_MARKS:
            self.tell(False, is_rule, (marks, (0,)), 3)
            self.tell(False, is_rule, ((0,), marks), 3)

    def test_no_pair(self):
        for thing in NO_RULES:
            self.tell(False, is_rule, thing, 3)

    def test_wrong_ones(self):
        for thing in NOTHINGS:
            self.tell(False, is_rule, thing, 3)
        for depth in range(1, 31):
            self.tell(False, is_rule, nested(depth, ((), ()), tuple), 3)


class TestRules(ThingCase):
    def test_ordinary_rules(self):
        self.tell(True, are_rules, (((0,), (1,)), ((1, 2), (0,))), 3)
        self.tell(True, are_rules, (((), (0,)), ((0,), ()), ((), ())), 1)
        self.tell(True, are_rules, (((0,), (1,)), ((0,), (1,))), 6)

    def test_how_many_rules(self):
        for rule in (((), ()), ((0,), (1, 2))):
            for size in (0, 1, 63, 64):
                self.tell(True, are_rules, (rule,) * size, 3)
            for size in (65, 66, 200):
                self.tell(False, are_rules, (rule,) * size, 3)

    def test_one_wrong_rule_wherever_it_stands(self):
        rules = (((0,), (1,)), ((), ()), ((1, 2), (0,)))
        for place in range(3):
            for marks in NO_MARKS:
                self.tell(False, are_rules, put_for(rules, place, (marks, ())), 3)
                self.tell(False, are_rules, put_for(rules, place, ((), marks)), 3)
            for part in NO_RULES:
                self.tell(False, are_rules, put_for(rules, place, part), 3)
        self.tell(False, are_rules, (((), ()),) * 63 + (((), (3,)),), 3)

    def test_a_mark_of_the_number_many(self):
        for many in range(1, 7):
            self.tell(True, are_rules, (((many - 1,), ()),), many)
            self.tell(False, are_rules, (((many,), ()),), many)

    def test_a_rule_by_itself_and_a_table_are_no_rules(self):
        self.tell(False, are_rules, ((0,), (1,)), 3)
        self.tell(False, are_rules, ((), ()), 3)
        self.tell(False, are_rules, (3, ()), 3)

    def test_wrong_ones(self):
        for thing in NOTHINGS:
            self.tell(False, are_rules, thing, 3)
        for depth in range(2, 31):
            self.tell(False, are_rules, nested(depth, ((), ()), tuple), 3)


if __name__ == "__main__":
    unittest.main()
