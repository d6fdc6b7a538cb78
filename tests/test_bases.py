import itertools
import unittest

from markhall.bases import base, base_of, table_of
from markhall.closing import closed, holds
from markhall.rules import closed_by, follows
from tests.cases import AnswerCase, plain_things
from tests.oracles import base_by, in_order, kept, rules_closing, rules_that_hold, table_closing
from tests.samples import (
    LARGE, LARGE_RULES, all_marks, all_rules, all_tables, but_one, rows_of_rules, tables_of_unlike_rows,
)

TABLE = (3, ((0, 1), (1, 2), (1,)))


def small_tables():
    for many, most in ((1, 4), (2, 3), (3, 2)):
        yield from all_tables(many, most)
    yield from tables_of_unlike_rows(3)


def small_rules():
    for many, most in ((1, 4), (2, 2), (3, 1)):
        for rules in rows_of_rules(many, most):
            yield rules, many
    for rules in itertools.combinations(all_rules(3), 2):
        yield rules, 3
    for rules in LARGE_RULES:
        yield rules, 6


class BaseCase(AnswerCase):
    def ask_order_and_parts(self, told, closing):
        aheads = [ahead for ahead, behind in told]
        self.assertEqual(aheads, in_order(set(aheads)))
        for ahead, behind in told:
            self.assertTrue(behind)
            self.assertEqual(set(ahead) & set(behind), set())
            self.assertEqual(tuple(sorted(ahead + behind)), closing[ahead])

    def ask_none_follows_from_the_others(self, told):
        for number, rule in enumerate(told):
            self.assertFalse(follows(told[:number] + told[number + 1:], rule), (told, rule))


class TestBase(BaseCase):
    def test_ordinary_tables(self):
        self.tell((((), (1,)),), base, TABLE)
        self.tell((((0,), (1,)), ((2,), (0, 1))), base, (3, ((0, 1), (0, 1, 2), (1,), ())))
        self.tell((((0, 1), (2,)),), base, (3, ((0,), (1,), (0, 2), (1, 2))))

    def test_marks_that_have_what_closing_makes_of_less(self):
        # From 0 comes 1; marks 0 and 2 have not what comes of 0, so they are not nearly closed, but 0, 1 and 2 are.
        table = (4, ((0, 1, 3), (0, 1), (1, 2, 3), (1, 2), (3,), (2,), (2, 3)))
        self.tell((((0,), (1,)), ((0, 1, 2), (3,))), base, table)

    def test_no_things(self):
        for many in range(1, 7):
            self.tell((((), tuple(range(many))),), base, (many, ()))

    def test_things_of_every_mark(self):
        for many in range(1, 7):
            for size in (1, 2, 64):
                self.tell((((), tuple(range(many))),), base, (many, (tuple(range(many)),) * size))

    def test_things_of_no_mark(self):
        self.tell((), base, (1, ((),)))
        for many in range(2, 7):
            whole = tuple(range(many))
            singles = tuple(((mark,), whole[:mark] + whole[mark + 1:]) for mark in whole)
            for size in (1, 2, 64):
                self.tell(singles, base, (many, ((),) * size))

    def test_like_rows(self):
        self.tell(base(TABLE), base, (3, TABLE[1] * 5))
        self.tell((((), (0, 2)),), base, (3, ((0, 2), (0, 2))))
        self.tell((((), (0, 5)), ((0, 1, 5), (2, 3, 4)), ((0, 2, 5), (1, 3, 4)), ((0, 3, 5), (1, 2, 4)),
                   ((0, 4, 5), (1, 2, 3))), base, (6, ((0, 5),) * 64))

    def test_one_mark(self):
        self.tell((((), (0,)),), base, (1, ()))
        self.tell((((), (0,)),), base, (1, ((0,), (0,))))
        self.tell((), base, (1, ((),)))
        self.tell((), base, (1, ((), (0,))))

    def test_six_marks_and_64_things(self):
        self.tell((), base, (6, tuple(all_marks(6))))
        self.tell((), base, but_one(6))
        pairs = (6, tuple(marks for marks in all_marks(6) if len(marks) <= 2))
        triples = [marks for marks in all_marks(6) if len(marks) == 3]
        expected = tuple((marks, tuple(mark for mark in range(6) if mark not in marks)) for marks in triples)
        self.tell(expected, base, pairs)
        self.assertEqual(len(base(pairs)), 20)

    def test_all_that_are_nearly_closed_by_their_order(self):
        for table in itertools.chain(small_tables(), LARGE):
            closing = table_closing(table)
            told = base(table)
            self.assertEqual(told, base_by(closing), table)
            self.assertTrue(plain_things(told))
            self.ask_order_and_parts(told, closing)

    def test_all_marks_close_as_by_the_table(self):
        for table in itertools.chain(small_tables(), LARGE):
            told = base(table)
            for marks in all_marks(table[0]):
                self.assertEqual(closed_by(told, marks), closed(table, marks))

    def test_just_what_holds_follows(self):
        for table in small_tables():
            told = base(table)
            for rule in all_rules(table[0]):
                self.assertIs(follows(told, rule), holds(table, rule))

    def test_none_follows_from_the_others(self):
        for table in itertools.chain(small_tables(), LARGE):
            self.ask_none_follows_from_the_others(base(table))

    def ask_no_fewer(self, table):
        closing = table_closing(table)
        size = len(base(table))
        whole = [marks for marks in closing if closing[marks] == marks]
        if size == 0:
            return
        # One rule fewer is enough: fewer still, with rules that add nothing put to them, are among these.
        for fewer in itertools.combinations(rules_that_hold(closing, table[0]), size - 1):
            self.assertNotEqual(kept(fewer, table[0]), whole)

    def test_no_rules_that_do_as_much_are_fewer(self):
        for many in (1, 2, 3):
            seen = []
            for table in tables_of_unlike_rows(many):
                closing = table_closing(table)
                if closing not in seen:
                    seen.append(closing)
                    self.ask_no_fewer(table)

    def test_beyond_the_bounds_nothing_is_refused(self):
        self.tell((((), (0, 1, 2, 3, 4, 5, 6)),), base, (7, ()))
        self.tell((((), (0, 1)),), base, (2, ((0, 1),) * 65))


class TestBaseOf(BaseCase):
    def test_ordinary_rules(self):
        self.tell((((0,), (1, 2)), ((1,), (2,))), base_of, (((0,), (1,)), ((1,), (2,))), 3)
        self.tell((((0,), (1,)), ((0, 1, 2), (3,))), base_of, (((0, 2), (3,)), ((0,), (1,))), 4)

    def test_no_rules(self):
        for many in range(1, 7):
            self.tell((), base_of, (), many)
            self.tell((), base_of, (((), ()), ((0,), (0,)), ((0,), ())), many)

    def test_how_many_marks_there_are_counts(self):
        rules = (((), (0,)),)
        self.tell((((), (0,)),), base_of, rules, 1)
        self.tell((((), (0,)),), base_of, rules, 6)
        self.tell((((), (0,)), ((0, 1), (2,))), base_of, rules + (((1,), (2,)),), 3)

    def test_another_order(self):
        rules = (((0,), (1,)), ((1, 2), (3,)), ((3,), (0, 2)), ((), (4,)))
        for others in itertools.permutations(rules):
            self.tell(base_of(rules, 5), base_of, others, 5)

    def test_more_that_follow(self):
        for rules, many in ((LARGE_RULES[3], 6), (LARGE_RULES[1], 6), ((((0,), (1,)), ((1,), (2,))), 3)):
            more = tuple(rule for rule in all_rules(many)[::7] if follows(rules, rule))[:50]
            self.assertTrue(any(not set(rule[1]) <= set(rule[0]) for rule in more))
            self.tell(base_of(rules, many), base_of, rules + more, many)
            self.tell(base_of(rules, many), base_of, more + rules, many)

    def test_one_parted_in_two(self):
        self.tell(base_of((((0,), (1, 2)),), 3), base_of, (((0,), (1,)), ((0,), (2,))), 3)
        self.tell((((0,), (1, 2)),), base_of, (((0,), (1,)), ((0, 1), (2,))), 3)

    def test_rules_from_which_others_follow(self):
        rules = (((0,), (1,)), ((1,), (2,)))
        for others in ((), rules[:1], rules[1:], rules + (((2,), (0,)),), rules + (((), (2,)),)):
            self.assertNotEqual(base_of(rules, 3), base_of(others, 3))

    def test_same_base_just_if_the_same_follows(self):
        found = {}
        for rules in itertools.chain(rows_of_rules(2, 2), itertools.combinations(all_rules(2), 3)):
            follow = tuple(rule for rule in all_rules(2) if follows(rules, rule))
            found.setdefault(follow, set()).add(base_of(rules, 2))
        self.assertTrue(all(len(bases) == 1 for bases in found.values()))
        self.assertEqual(len(set.union(*found.values())), len(found))
        # Of two marks there are just seven choices of marks that have all marks and what each two share.
        self.assertEqual(len(found), 7)

    def test_all_that_are_nearly_closed_by_their_order(self):
        for rules, many in small_rules():
            closing = rules_closing(rules, many)
            told = base_of(rules, many)
            self.assertEqual(told, base_by(closing), rules)
            self.assertTrue(plain_things(told))
            self.ask_order_and_parts(told, closing)
            self.ask_none_follows_from_the_others(told)

    def test_of_a_base_it_is_that_base(self):
        for rules, many in small_rules():
            told = base_of(rules, many)
            self.assertEqual(base_of(told, many), told)
        for table in itertools.chain(small_tables(), LARGE):
            self.assertEqual(base_of(base(table), table[0]), base(table))


class TestTableOf(BaseCase):
    def test_ordinary_rules(self):
        self.tell((3, ((), (2,), (1, 2), (0, 1, 2))), table_of, (((0,), (1,)), ((1,), (2,))), 3)
        self.tell((2, ((0,), (0, 1))), table_of, (((), (0,)),), 2)

    def test_no_rules(self):
        for many in range(1, 7):
            self.tell((many, tuple(all_marks(many))), table_of, (), many)

    def test_rules_that_leave_all_marks_alone(self):
        for many in range(1, 7):
            self.tell((many, (tuple(range(many)),)), table_of, (((), tuple(range(many))),), many)

    def test_rows_are_all_closed_marks_in_their_order(self):
        for rules, many in small_rules():
            told = table_of(rules, many)
            self.assertEqual(told, (many, tuple(kept(rules, many))))
            self.assertTrue(all(closed_by(rules, row) == row for row in told[1]))
            self.assertTrue(plain_things(told))

    def test_just_the_rules_that_follow_hold(self):
        for rules, many in small_rules():
            table = table_of(rules, many)
            asked = all_rules(many) if many < 6 else all_rules(many)[::41]
            for rule in asked:
                self.assertIs(holds(table, rule), follows(rules, rule))

    def test_its_base_is_that_of_the_rules(self):
        for rules, many in small_rules():
            self.assertEqual(base(table_of(rules, many)), base_of(rules, many))

    def test_beyond_the_bounds_nothing_is_refused(self):
        self.tell((7, tuple(all_marks(7))), table_of, (), 7)
        self.tell((), base_of, (((0,), (0,)),) * 65, 7)


if __name__ == "__main__":
    unittest.main()
