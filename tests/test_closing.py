import itertools
import unittest

from markhall.closing import closed, having, holds, shared
from tests.cases import AnswerCase, plain_things
from tests.samples import LARGE, all_marks, all_rules, all_tables

TABLE = (4, ((0, 1), (0, 1, 2), (1, 3), (), (0, 1)))
SMALL = ((1, 4), (2, 3), (3, 2))


def small_tables():
    for many, most in SMALL:
        yield from all_tables(many, most)


def share(table, things):
    return {mark for mark in range(table[0]) if not any(mark not in table[1][thing] for thing in things)}


def have(table, marks):
    return {thing for thing in range(len(table[1])) if set(table[1][thing]) >= set(marks)}


class ClosingCase(AnswerCase):
    def same(self, told, expected):
        self.assertEqual(told, tuple(sorted(expected)))
        self.assertTrue(plain_things(told))


class TestShared(ClosingCase):
    def test_ordinary_things(self):
        self.tell((0, 1), shared, TABLE, (0, 1))
        self.tell((1,), shared, TABLE, (1, 2))
        self.tell((1,), shared, TABLE, (0, 1, 2, 4))
        self.tell((0, 1, 2), shared, TABLE, (1,))

    def test_no_things_share_all_marks(self):
        self.tell((0, 1, 2, 3), shared, TABLE, ())
        for many in range(1, 7):
            self.tell(tuple(range(many)), shared, (many, ()), ())
            self.tell(tuple(range(many)), shared, (many, ((),)), ())

    def test_things_that_share_none(self):
        self.tell((), shared, TABLE, (3,))
        self.tell((), shared, TABLE, (0, 3))
        self.tell((), shared, TABLE, (0, 1, 2, 3, 4))
        self.tell((), shared, (2, ((0,), (1,))), (0, 1))

    def test_64_things(self):
        table = (6, ((0, 5),) * 63 + ((5,),))
        self.tell((5,), shared, table, tuple(range(64)))
        self.tell((0, 5), shared, table, tuple(range(63)))

    def test_small_tables_whole(self):
        for table in small_tables():
            numbers = range(len(table[1]))
            for size in range(len(numbers) + 1):
                for things in itertools.combinations(numbers, size):
                    self.same(shared(table, things), share(table, things))


class TestHaving(ClosingCase):
    def test_ordinary_marks(self):
        self.tell((0, 1, 4), having, TABLE, (0,))
        self.tell((0, 1, 2, 4), having, TABLE, (1,))
        self.tell((1,), having, TABLE, (0, 2))

    def test_no_marks_all_marks_and_marks_that_no_thing_has(self):
        self.tell((0, 1, 2, 3, 4), having, TABLE, ())
        self.tell((), having, TABLE, (0, 1, 2, 3))
        self.tell((), having, TABLE, (0, 3))
        self.tell((1,), having, (2, ((0,), (0, 1), (1,))), (0, 1))

    def test_no_things_in_the_table(self):
        for many in range(1, 7):
            for marks in all_marks(many):
                self.tell((), having, (many, ()), marks)

    def test_64_things(self):
        self.tell(tuple(range(64)), having, (6, ((0, 5),) * 64), (0, 5))

    def test_small_tables_whole(self):
        for table in small_tables():
            for marks in all_marks(table[0]):
                self.same(having(table, marks), have(table, marks))


class TestClosed(ClosingCase):
    def test_ordinary_marks(self):
        self.tell((0, 1), closed, TABLE, (0,))
        self.tell((0, 1, 2), closed, TABLE, (2,))
        self.tell((1, 3), closed, TABLE, (3,))
        self.tell((1,), closed, TABLE, (1,))

    def test_no_marks_all_marks_and_marks_that_no_thing_has(self):
        self.tell((), closed, TABLE, ())
        self.tell((0, 1, 2, 3), closed, TABLE, (0, 1, 2, 3))
        self.tell((0, 1, 2, 3), closed, TABLE, (0, 3))
        self.tell((1,), closed, (3, ((0, 1), (1, 2))), ())

    def test_no_things_in_the_table(self):
        for many in range(1, 7):
            for marks in all_marks(many):
                self.tell(tuple(range(many)), closed, (many, ()), marks)

    def test_small_tables_whole(self):
        for table in itertools.chain(small_tables(), LARGE):
            for marks in all_marks(table[0]):
                told = closed(table, marks)
                self.same(told, share(table, have(table, marks)))
                self.assertEqual(closed(table, told), told)
                self.assertLessEqual(set(marks), set(told))


class TestHolds(ClosingCase):
    def test_ordinary_rules(self):
        self.tell(True, holds, TABLE, ((0,), (1,)))
        self.tell(True, holds, TABLE, ((2,), (0, 1)))
        self.tell(False, holds, TABLE, ((1,), (0,)))
        self.tell(False, holds, TABLE, ((0,), (1, 2)))

    def test_no_marks_ahead(self):
        self.tell(False, holds, TABLE, ((), (1,)))
        self.tell(True, holds, (3, ((0, 1), (1, 2))), ((), (1,)))
        self.tell(False, holds, (3, ((0, 1), (1, 2))), ((), (0, 1)))

    def test_no_marks_behind(self):
        for marks in all_marks(4):
            self.tell(True, holds, TABLE, (marks, ()))

    def test_marks_ahead_that_no_thing_has(self):
        self.tell(True, holds, TABLE, ((0, 3), (2,)))
        self.tell(True, holds, TABLE, ((0, 1, 2, 3), (0, 1, 2, 3)))

    def test_no_things_in_the_table(self):
        for many in range(1, 4):
            for rule in all_rules(many):
                self.tell(True, holds, (many, ()), rule)

    def test_the_last_thing_alone_speaks_against(self):
        self.tell(True, holds, (2, ((0, 1),) * 64), ((0,), (1,)))
        self.tell(False, holds, (2, ((0, 1),) * 63 + ((0,),)), ((0,), (1,)))

    def test_small_tables_whole(self):
        for table in small_tables():
            for ahead, behind in all_rules(table[0]):
                against = [row for row in table[1] if set(ahead) <= set(row) and not set(behind) <= set(row)]
                self.assertIs(holds(table, (ahead, behind)), not against)


# Tables somewhat beyond their bounds are not refused.
class TestBeyond(ClosingCase):
    def test_seven_marks_and_65_things(self):
        table = (7, ((0, 6),) * 64 + ((6,),))
        self.tell((6,), shared, table, tuple(range(65)))
        self.tell(tuple(range(64)), having, table, (0,))
        self.tell((0, 6), closed, table, (0,))
        self.tell(True, holds, table, ((0,), (6,)))
        self.tell(False, holds, table, ((6,), (0,)))


if __name__ == "__main__":
    unittest.main()
