import itertools
import unittest

from markhall.closing import closed
from markhall.notions import below, join, meet, next_below, notions, number_of
from tests.cases import AnswerCase, plain_things
from tests.samples import LARGE, all_marks, all_tables, but_one

TABLE = (3, ((0, 1), (1, 2), (1,)))
DIAMOND = (2, ((0,), (1,)))


def small_tables():
    for many, most in ((1, 4), (2, 3), (3, 2)):
        yield from all_tables(many, most)


def are_told_by_each_other(table, things, marks):
    rows = table[1]
    having = [thing for thing in range(len(rows)) if all(mark in rows[thing] for mark in marks)]
    sharing = [mark for mark in range(table[0]) if all(mark in rows[thing] for thing in things)]
    return having == list(things) and sharing == list(marks)


def pairs_of(table):
    """All pairs of things and marks each of which is told by the other, by the marks' order."""
    numbers = range(len(table[1]))
    chosen = [things for size in range(len(numbers) + 1) for things in itertools.combinations(numbers, size)]
    both = itertools.product(all_marks(table[0]), chosen)
    return tuple((things, marks) for marks, things in both if are_told_by_each_other(table, things, marks))


def things_below(told, one, other):
    return set(told[one][0]) < set(told[other][0])


def or_below(told, one, other):
    return set(told[one][0]) <= set(told[other][0])


def below_of(told):
    numbers = range(len(told))
    return tuple((one, other) for one in numbers for other in numbers if things_below(told, one, other))


def next_of(told):
    pairs = below_of(told)
    middle = {(one, other) for one, third in pairs for also, other in pairs if third == also}
    return tuple(pair for pair in pairs if pair not in middle)


def least_above(told, one, other):
    above = [number for number in range(len(told)) if or_below(told, one, number) and or_below(told, other, number)]
    return [number for number in above if all(or_below(told, number, also) for also in above)]


def greatest_below(told, one, other):
    under = [number for number in range(len(told)) if or_below(told, number, one) and or_below(told, number, other)]
    return [number for number in under if all(or_below(told, also, number) for also in under)]


class TestNotions(AnswerCase):
    def test_ordinary_table(self):
        self.tell((((0, 1, 2), (1,)), ((0,), (0, 1)), ((1,), (1, 2)), ((), (0, 1, 2))), notions, TABLE)

    def test_by_the_number_of_marks_then_as_tuples(self):
        table = (4, ((0, 1, 3), (2, 3), (0, 2), (3,)))
        told = [marks for things, marks in notions(table)]
        self.assertEqual(told, [(), (0,), (2,), (3,), (0, 2), (2, 3), (0, 1, 3), (0, 1, 2, 3)])

    def test_no_things(self):
        for many in range(1, 7):
            self.tell((((), tuple(range(many))),), notions, (many, ()))

    def test_like_rows(self):
        self.tell((((0, 1), (0, 2)), ((), (0, 1, 2))), notions, (3, ((0, 2), (0, 2))))
        self.tell(((tuple(range(64)), (0, 5)), ((), (0, 1, 2, 3, 4, 5))), notions, (6, ((0, 5),) * 64))
        self.tell((((0, 1, 2), ()), ((0, 2), (1,)), ((), (0, 1))), notions, (2, ((1,), (), (1,))))

    def test_things_of_every_mark(self):
        for many in range(1, 7):
            for size in (1, 2, 64):
                self.tell(((tuple(range(size)), tuple(range(many))),), notions, (many, (tuple(range(many)),) * size))

    def test_things_of_no_mark(self):
        for many in range(1, 7):
            for size in (1, 2, 64):
                self.tell(((tuple(range(size)), ()), ((), tuple(range(many)))), notions, (many, ((),) * size))

    def test_all_marks_closed(self):
        for many in range(1, 7):
            self.assertEqual([marks for things, marks in notions(but_one(many))], all_marks(many))

    def test_tables_gone_through_whole(self):
        for table in small_tables():
            self.tell(pairs_of(table), notions, table)

    def test_large_tables(self):
        for table in LARGE:
            told = notions(table)
            self.assertTrue(plain_things(told))
            self.assertTrue(all(are_told_by_each_other(table, things, marks) for things, marks in told))
            known = {tuple(mark for mark in range(table[0]) if all(mark in row for row in rows))
                     for rows in [[row for row in table[1] if set(row) >= set(marks)] for marks in all_marks(table[0])]}
            self.assertEqual([marks for things, marks in told], sorted(known, key=lambda marks: (len(marks), marks)))

    def test_beyond_the_bounds_nothing_is_refused(self):
        table = (7, ((0, 6),) * 65)
        self.tell(((tuple(range(65)), (0, 6)), ((), tuple(range(7)))), notions, table)
        self.tell(((1, 0),), below, table)


class TestNumberOf(AnswerCase):
    def test_ordinary_marks(self):
        self.tell(0, number_of, TABLE, ())
        self.tell(0, number_of, TABLE, (1,))
        self.tell(1, number_of, TABLE, (0,))
        self.tell(2, number_of, TABLE, (1, 2))
        self.tell(3, number_of, TABLE, (0, 2))
        self.tell(3, number_of, TABLE, (0, 1, 2))

    def test_no_things(self):
        for many in range(1, 7):
            for marks in all_marks(many):
                self.tell(0, number_of, (many, ()), marks)

    def test_tables_gone_through_whole(self):
        for table in itertools.chain(small_tables(), LARGE):
            told = notions(table)
            for marks in all_marks(table[0]):
                number = number_of(table, marks)
                self.assertIs(type(number), int)
                self.assertGreaterEqual(number, 0)
                self.assertEqual(told[number][1], closed(table, marks))


class TestBelow(AnswerCase):
    def test_ordinary_table(self):
        self.tell(((1, 0), (2, 0), (3, 0), (3, 1), (3, 2)), below, TABLE)
        self.tell(((1, 0), (2, 0), (3, 1), (3, 2)), next_below, TABLE)

    def test_one_notion_and_two(self):
        self.tell((), below, (3, ()))
        self.tell((), next_below, (3, ()))
        self.tell((), below, (1, ((0,),)))
        self.tell(((1, 0),), below, (1, ((),)))
        self.tell(((1, 0),), next_below, (1, ((),)))

    def test_a_row_of_notions(self):
        table = (4, tuple(tuple(range(size)) for size in range(5)))
        self.tell(tuple((one, other) for one in range(5) for other in range(one)), below, table)
        self.tell(((1, 0), (2, 1), (3, 2), (4, 3)), next_below, table)

    def test_all_marks_closed(self):
        self.assertEqual(len(below(but_one(6))), 3 ** 6 - 2 ** 6)
        self.assertEqual(len(next_below(but_one(6))), 6 * 2 ** 5)

    def test_tables_gone_through_whole(self):
        for table in itertools.chain(small_tables(), LARGE):
            told = notions(table)
            self.tell(below_of(told), below, table)
            self.tell(next_of(told), next_below, table)
            self.assertEqual(list(below(table)), sorted(set(below(table))))
            self.assertEqual(list(next_below(table)), sorted(set(next_below(table))))


class TestJoinAndMeet(AnswerCase):
    def test_ordinary_table(self):
        self.tell(0, join, TABLE, 1, 2)
        self.tell(3, meet, TABLE, 1, 2)
        self.tell(1, join, TABLE, 1, 3)
        self.tell(1, meet, TABLE, 0, 1)

    def test_things_and_marks_of_two_that_are_not_closed(self):
        # Thing 2 comes to things 0 and 1 in their join, mark 2 to marks 0 and 1 in their meet.
        self.tell(((0, 1, 2), (1,)), lambda table: notions(table)[join(table, 1, 2)], TABLE)
        table = (3, ((0, 1, 2), (0,), (1,)))
        self.tell((((0, 1, 2), ()), ((0, 1), (0,)), ((0, 2), (1,)), ((0,), (0, 1, 2))), notions, table)
        self.tell(3, meet, table, 1, 2)
        self.tell(0, join, table, 1, 2)

    def test_marks_of_two_between_which_others_lie(self):
        table = (4, ((0, 1, 2), (0, 1, 3), (0,), (1,)))
        marks = [marks for things, marks in notions(table)]
        self.assertEqual(marks, [(), (0,), (1,), (0, 1), (0, 1, 2), (0, 1, 3), (0, 1, 2, 3)])
        self.tell(3, meet, table, 1, 2)
        self.tell(0, join, table, 1, 2)
        self.tell(6, meet, table, 4, 5)
        self.tell(3, join, table, 4, 5)

    def test_one_with_itself_and_the_first_with_the_last(self):
        for table in (TABLE, DIAMOND, (1, ()), (3, ()), (6, ((),) * 64)) + LARGE:
            last = len(notions(table)) - 1
            for number in (0, last // 2, last):
                self.tell(number, join, table, number, number)
                self.tell(number, meet, table, number, number)
            self.tell(0, join, table, 0, last)
            self.tell(0, join, table, last, 0)
            self.tell(last, meet, table, 0, last)
            self.tell(last, meet, table, last, 0)

    def ask_each_two(self, table):
        told = notions(table)
        for one in range(len(told)):
            for other in range(len(told)):
                self.assertEqual([join(table, one, other)], least_above(told, one, other))
                self.assertEqual([meet(table, one, other)], greatest_below(told, one, other))

    def test_tables_gone_through_whole(self):
        for table in small_tables():
            self.ask_each_two(table)

    def test_large_tables(self):
        for table in LARGE:
            if len(notions(table)) < 30:
                self.ask_each_two(table)

    def test_kinds(self):
        for asked in (join, meet):
            self.assertIs(type(asked(TABLE, 1, 2)), int)


if __name__ == "__main__":
    unittest.main()
