import itertools
import unittest

from markhall.rules import closed_by, follows
from tests.cases import AnswerCase, plain_things
from tests.oracles import against, rules_closing
from tests.samples import LARGE_RULES, all_marks, all_rules, rows_of_rules

CHAIN = (((0,), (1,)), ((1,), (2,)), ((2,), (3,)), ((3,), (4,)))
ALL = tuple(range(6))


class TestClosedBy(AnswerCase):
    def test_ordinary_rules(self):
        rules = (((0,), (1,)), ((1, 2), (3,)))
        self.tell((0, 1), closed_by, rules, (0,))
        self.tell((1,), closed_by, rules, (1,))
        self.tell((0, 1, 2, 3), closed_by, rules, (0, 2))
        self.tell((2, 3), closed_by, rules, (2, 3))

    def test_no_rules(self):
        for marks in all_marks(6):
            self.tell(marks, closed_by, (), marks)

    def test_several_turns_in_whatever_order(self):
        for rules in itertools.permutations(CHAIN):
            self.tell((0, 1, 2, 3, 4), closed_by, rules, (0,))
            self.tell((2, 3, 4), closed_by, rules, (2,))
            self.tell((4,), closed_by, rules, (4,))

    def test_marks_behind_come_in_their_order(self):
        self.tell((0, 1, 2, 3), closed_by, (((3,), (0, 2)), ((2,), (1,))), (3,))

    def test_64_rules(self):
        rules = (((0,), (1,)),) * 62 + (((2,), (3,)), ((1,), (2,)))
        self.assertEqual(len(rules), 64)
        self.tell((0, 1, 2, 3), closed_by, rules, (0,))
        self.tell((4, 5), closed_by, rules, (4, 5))
        each = tuple((marks, ALL) for marks in reversed(all_marks(6)))
        self.tell(ALL, closed_by, each, ())
        self.tell((), closed_by, each[:-1], ())

    def test_no_marks_ahead(self):
        self.tell((1,), closed_by, (((), (1,)),), ())
        self.tell((0, 1), closed_by, (((), (1,)),), (0,))
        self.tell((1, 2), closed_by, (((1,), (2,)), ((), (1,))), ())

    def test_no_marks_behind(self):
        for marks in all_marks(3):
            self.tell(marks, closed_by, (((), ()), ((0,), ()), ((0, 1, 2), ())), marks)

    def test_marks_behind_that_stand_ahead(self):
        for marks in all_marks(3):
            self.tell(marks, closed_by, (((0, 1), (0,)), ((2,), (2,)), ((0, 1, 2), (0, 1, 2))), marks)
        self.tell((0, 1), closed_by, (((0,), (0, 1)),), (0,))

    def test_all_marks_ahead_must_be_there(self):
        self.tell((0, 1), closed_by, (((0, 1, 2), (3,)),), (0, 1))
        self.tell((0, 1, 2, 3), closed_by, (((0, 1, 2), (3,)),), (0, 1, 2))

    def test_no_marks_and_all_marks(self):
        self.tell((), closed_by, CHAIN, ())
        for rules in LARGE_RULES:
            self.tell(ALL, closed_by, rules, ALL)

    def ask_least(self, rules, many):
        closing = rules_closing(rules, many)
        for marks in all_marks(many):
            told = closed_by(rules, marks)
            self.assertEqual(told, closing[marks], (rules, marks))
            self.assertTrue(plain_things(told))
            self.assertLessEqual(set(marks), set(told))
            self.assertFalse(any(against(told, rule) for rule in rules))

    def test_the_least_that_have_these_and_keep_the_rules(self):
        for many, most in ((1, 4), (2, 3), (3, 2)):
            for rules in rows_of_rules(many, most):
                self.ask_least(rules, many)
        for rules in LARGE_RULES:
            self.ask_least(rules, 6)
            self.ask_least(rules[::-1], 6)

    def test_beyond_the_bounds_nothing_is_refused(self):
        self.tell((0, 6, 7), closed_by, (((0,), (6,)),) * 70 + (((6,), (7,)),), (0,))


class TestFollows(AnswerCase):
    def test_ordinary_rules(self):
        self.tell(True, follows, CHAIN, ((0,), (4,)))
        self.tell(True, follows, CHAIN, ((1,), (2, 3, 4)))
        self.tell(True, follows, CHAIN, ((0, 5), (1, 5)))
        self.tell(False, follows, CHAIN, ((4,), (0,)))
        self.tell(False, follows, CHAIN, ((0,), (1, 5)))
        self.tell(False, follows, CHAIN, ((), (0,)))

    def test_each_rule_follows_from_itself(self):
        for rule in all_rules(3):
            self.tell(True, follows, (rule,), rule)

    def test_no_rules(self):
        for rule in all_rules(3):
            self.tell(set(rule[1]) <= set(rule[0]), follows, (), rule)

    def test_no_marks_ahead_and_none_behind(self):
        self.tell(True, follows, (((), (0, 1)),), ((), (1,)))
        self.tell(True, follows, (((), (0, 1)),), ((2,), (0,)))
        self.tell(False, follows, (((0,), (1,)),), ((), (1,)))
        self.tell(True, follows, (), ((), ()))
        self.tell(True, follows, (((0,), (1,)),), ((2,), ()))

    def test_just_if_all_that_keep_the_rules_keep_it(self):
        for many, most in ((1, 3), (2, 2), (3, 1)):
            for rules in rows_of_rules(many, most):
                keeping = [marks for marks in all_marks(many) if not any(against(marks, rule) for rule in rules)]
                for rule in all_rules(many):
                    self.assertIs(follows(rules, rule), not any(against(marks, rule) for marks in keeping))


if __name__ == "__main__":
    unittest.main()
