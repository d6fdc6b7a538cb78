import unittest

from markhall.asking import Asker
from markhall.bases import base, base_of
from markhall.closing import holds
from markhall.errors import NoAnswer, NoQuestion
from markhall.notions import notions
from markhall.rules import follows
from tests.cases import AnswerCase, plain_things
from tests.oracles import against, question_of
from tests.samples import LARGE, LARGE_RULES, NO_MARKS, NOTHINGS, all_marks, all_tables, but_one, tables_of_unlike_rows

YES = None


def asked(many, way):
    """An Asker behind these answers: YES, or the marks of a thing that speaks against the question."""
    asker = Asker(many)
    for answer in way:
        if answer is YES:
            asker.yes()
        else:
            asker.no(answer)
    return asker


def kept_by(asker):
    return (asker.question(), asker.known(), asker.said(), asker.asked_so_far())


def answers_by(table):
    """Answers by what holds in the table, with each choice of the thing that speaks against."""
    for choose in (min, max, lambda rows: rows[0], lambda rows: rows[-1]):
        def answer(rule):
            rows = [row for row in table[1] if against(row, rule)]
            return choose(rows) if rows else YES

        yield answer


def ask_to_the_end(many, answer):
    asker = Asker(many)
    # Far more than there can be: who never comes to an end is seen by that.
    for _ in range(200):
        rule = asker.question()
        if rule is None:
            return asker
        told = answer(rule)
        if told is YES:
            asker.yes()
        else:
            asker.no(told)
    raise AssertionError("the questions have no end")


class AskerCase(AnswerCase):
    def state(self, asker, question, rows, rules):
        many = asker.known()[0]
        self.tell(question, asker.question)
        self.tell((many, rows), asker.known)
        self.tell(rules, asker.said)
        self.tell(len(rows) + len(rules), asker.asked_so_far)
        self.assertIs(type(asker.asked_so_far()), int)

    def refuse_and_keep(self, refusal, asker, name, *given):
        before = kept_by(asker)
        self.refuse(refusal, getattr(asker, name), *given)
        self.assertEqual(kept_by(asker), before)


class TestQuestions(AskerCase):
    def test_at_first(self):
        for many in range(1, 7):
            self.state(Asker(many), ((), tuple(range(many))), (), ())

    def test_yes_and_no_in_turn(self):
        asker = Asker(3)
        self.state(asker, ((), (0, 1, 2)), (), ())
        self.assertIsNone(asker.no((0, 1)))
        self.state(asker, ((), (0, 1)), ((0, 1),), ())
        self.assertIsNone(asker.no((1, 2)))
        self.state(asker, ((), (1,)), ((0, 1), (1, 2)), ())
        self.assertIsNone(asker.yes())
        self.state(asker, None, ((0, 1), (1, 2)), (((), (1,)),))

    def test_marks_ahead_in_a_rule_do_not_come_again(self):
        asker = asked(3, [(1,), ()])
        self.state(asker, ((0,), (1, 2)), ((1,), ()), ())
        asker.yes()
        self.state(asker, ((2,), (0, 1)), ((1,), ()), (((0,), (1, 2)),))
        asker.yes()
        self.state(asker, None, ((1,), ()), (((0,), (1, 2)), ((2,), (0, 1))))

    def test_marks_without_what_is_behind_are_passed_over(self):
        # Closing makes (0, 2) and (0, 3) more, but they don't have the 1 that stands behind 0.
        asker = asked(4, [(), (0, 1), YES, (1,), (2,), (3,)])
        self.assertEqual(asker.said(), (((0,), (1,)),))
        self.assertEqual(asker.question(), ((1, 2), (0, 3)))
        asker.yes()
        self.assertEqual(asker.question(), ((1, 3), (0, 2)))
        asker.yes()
        self.assertEqual(asker.question(), ((2, 3), (0, 1)))
        asker.yes()
        self.assertIsNone(asker.question())

    def test_said_to_the_end(self):
        for many in range(1, 7):
            asker = Asker(many)
            asker.yes()
            self.state(asker, None, (), (((), tuple(range(many))),))

    def test_none_of_one_mark(self):
        asker = Asker(1)
        asker.no(())
        self.state(asker, None, ((),), ())

    def test_two_askers_keep_nothing_in_common(self):
        one = Asker(2)
        other = Asker(2)
        one.no((0,))
        self.state(other, ((), (0, 1)), (), ())
        other.yes()
        self.state(one, ((), (0,)), ((0,),), ())
        self.state(other, None, (), (((), (0, 1)),))
        self.state(Asker(2), ((), (0, 1)), (), ())

    def test_what_was_told_does_not_change(self):
        asker = Asker(3)
        told = [kept_by(asker)]
        asker.no((0, 1))
        told.append(kept_by(asker))
        asker.no(())
        told.append(kept_by(asker))
        asker.yes()
        told.append(kept_by(asker))
        asker.yes()
        self.assertEqual(told[0], (((), (0, 1, 2)), (3, ()), (), 0))
        self.assertEqual(told[1], (((), (0, 1)), (3, ((0, 1),)), (), 1))
        self.assertEqual(told[2], (((0,), (1,)), (3, ((0, 1), ())), (), 2))
        self.assertEqual(told[3], (((1,), (0,)), (3, ((0, 1), ())), (((0,), (1,)),), 3))
        self.state(asker, ((2,), (0, 1)), ((0, 1), ()), (((0,), (1,)), ((1,), (0,))))


# Every way that answers can go, of one, two and three marks.
class TestEveryWay(AskerCase):
    def ask_refused(self, many, way, rule, rules):
        accepted = []
        asker = asked(many, way)
        before = kept_by(asker)
        for marks in all_marks(many):
            if against(marks, rule) and not any(against(marks, other) for other in rules):
                accepted.append(marks)
                continue
            with self.assertRaises(NoAnswer):
                asker.no(marks)
        self.assertEqual(kept_by(asker), before)
        return accepted

    def ask_way(self, many, way, rows, rules):
        rule = question_of((many, rows), rules)
        asker = asked(many, way)
        for _ in range(2):
            self.assertEqual(kept_by(asker), (rule, (many, rows), rules, len(way)))
        self.assertTrue(plain_things(kept_by(asker)))
        if rule is None:
            self.assertEqual(rules, base((many, rows)))
            self.assertLessEqual(len(way), len(notions((many, rows))) + len(rules))
            return
        self.ask_way(many, way + [YES], rows, rules + (rule,))
        for marks in self.ask_refused(many, way, rule, rules):
            self.ask_way(many, way + [marks], rows + (marks,), rules)

    def test_every_way(self):
        for many in (1, 2, 3):
            self.ask_way(many, [], (), ())


class TestNoAnswer(AskerCase):
    def test_marks_without_what_is_ahead(self):
        asker = asked(3, [()])
        self.assertEqual(asker.question(), ((0,), (1, 2)))
        for marks in ((), (1,), (2,), (1, 2)):
            self.refuse_and_keep(NoAnswer, asker, "no", marks)
        asker.no((0, 1))
        self.state(asker, ((0,), (1,)), ((), (0, 1)), ())

    def test_marks_with_all_behind(self):
        asker = asked(3, [(), (0, 1)])
        self.assertEqual(asker.question(), ((0,), (1,)))
        for marks in ((0, 1), (0, 1, 2)):
            self.refuse_and_keep(NoAnswer, asker, "no", marks)
        self.refuse_and_keep(NoAnswer, Asker(3), "no", (0, 1, 2))
        asker.no((0,))
        self.assertEqual(asker.asked_so_far(), 3)

    def test_marks_against_a_rule_that_was_said_to_hold(self):
        asker = asked(3, [(), (0, 1), YES])
        self.assertEqual(asker.said(), (((0,), (1,)),))
        self.assertEqual(asker.question(), ((1,), (0,)))
        asker.no((1,))
        self.assertEqual(asker.question(), ((2,), (0, 1)))
        self.refuse_and_keep(NoAnswer, asker, "no", (0, 2))
        asker.no((1, 2))
        self.state(asker, ((2,), (1,)), ((), (0, 1), (1,), (1, 2)), (((0,), (1,)),))

    def test_marks_against_the_first_or_the_last_rule(self):
        asker = asked(4, [(), (0, 1), YES, YES, (2,), (3,)])
        self.assertEqual(asker.said(), (((0,), (1,)), ((1,), (0,))))
        self.assertEqual(asker.question(), ((2, 3), (0, 1)))
        self.refuse_and_keep(NoAnswer, asker, "no", (0, 2, 3))
        self.refuse_and_keep(NoAnswer, asker, "no", (1, 2, 3))
        asker.no((2, 3))
        self.assertEqual(asker.known()[1][-1], (2, 3))

    def test_what_are_no_marks(self):
        for way in ([], [(0, 1)], [()], [(), (0, 1), YES]):
            asker = asked(3, way)
            self.assertIsNotNone(asker.question())
            for thing in NO_MARKS + NOTHINGS:
                self.refuse_and_keep(NoAnswer, asker, "no", thing)

    def test_a_list_and_its_like_where_a_tuple_would_be_taken(self):
        for thing in ([], [0], "", "0", None, True, False, 0, (False,), (True,), (0, 0), (1, 0), (2,), (0, 2), (-1,)):
            self.refuse_and_keep(NoAnswer, Asker(2), "no", thing)
        for marks in ((), (0,), (1,)):
            asked(2, [marks])


class TestNoQuestion(AskerCase):
    def test_where_there_is_none(self):
        for many, way in ((1, [()]), (1, [YES]), (3, [YES]), (3, [(0, 1), (1, 2), YES]), (2, [(0,), (1,)])):
            asker = asked(many, way)
            self.assertIsNone(asker.question())
            self.refuse_and_keep(NoQuestion, asker, "yes")
            for thing in tuple(all_marks(3)) + NO_MARKS + NOTHINGS:
                self.refuse_and_keep(NoQuestion, asker, "no", thing)


class TestAskedByATable(AskerCase):
    def ask_table(self, table):
        for answer in answers_by(table):
            asker = ask_to_the_end(table[0], answer)
            expected = base(table)
            self.assertEqual(asker.said(), expected)
            self.assertEqual(base(asker.known()), expected)
            self.assertTrue(all(row in table[1] for row in asker.known()[1]))
            self.assertEqual([marks for things, marks in notions(asker.known())],
                             [marks for things, marks in notions(table)])
            self.assertLessEqual(asker.asked_so_far(), len(notions(table)) + len(expected))

    def test_small_tables_gone_through(self):
        for many, most in ((1, 3), (2, 3), (3, 1)):
            for table in all_tables(many, most):
                self.ask_table(table)
        for table in tables_of_unlike_rows(3):
            self.ask_table(table)

    def test_large_tables(self):
        for table in LARGE + (but_one(5), (6, ())):
            self.ask_table(table)

    def test_the_most_things(self):
        # Answered by what is ahead and no more, all marks come, but those that have every mark.
        asker = ask_to_the_end(6, lambda rule: rule[0])
        self.state(asker, None, tuple(all_marks(6)[:-1]), ())
        self.assertEqual(asker.asked_so_far(), 63)


class TestAskedByRules(AskerCase):
    def test_large_rules(self):
        for rules in LARGE_RULES:
            def answer(rule):
                if follows(rules, rule):
                    return YES
                fitting = [marks for marks in all_marks(6) if not any(against(marks, other) for other in rules)]
                return next(marks for marks in fitting if against(marks, rule))

            asker = ask_to_the_end(6, answer)
            self.assertEqual(asker.said(), base_of(rules, 6))
            self.assertTrue(all(holds(asker.known(), rule) for rule in rules))

    def test_said_to_hold_throughout(self):
        for way in ([], [()], [(0, 1), (1, 2)], [(0, 1, 2), (3, 4)]):
            answers = iter(way)
            asker = ask_to_the_end(6, lambda rule: next(answers, YES))
            self.assertEqual(asker.known(), (6, tuple(way)))
            self.assertEqual(asker.said(), base((6, tuple(way))))


# More marks than six are not refused.
class TestBeyond(AskerCase):
    def test_seven_marks(self):
        asker = Asker(7)
        self.state(asker, ((), tuple(range(7))), (), ())
        asker.no((0, 6))
        self.state(asker, ((), (0, 6)), ((0, 6),), ())


if __name__ == "__main__":
    unittest.main()
