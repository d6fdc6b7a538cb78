import itertools
import unittest

from markhall.bases import base
from markhall.changing import about, beside, only, plain
from markhall.closing import holds
from markhall.errors import NoRoom
from markhall.notions import notions
from tests.cases import AnswerCase, plain_things
from tests.oracles import in_all, in_order, table_closing
from tests.samples import LARGE, all_marks, all_rules, all_tables, but_one, tables_of_unlike_rows

TABLE = (3, ((0, 1), (1, 2), (1,), ()))
WHOLE = (0, 1, 2)


def small_tables():
    for many, most in ((1, 4), (2, 3), (3, 2)):
        yield from all_tables(many, most)


def marks_of_notions(table):
    return [marks for things, marks in notions(table)]


def turned(told):
    pairs = [(marks, things) for things, marks in told]
    return tuple(sorted(pairs, key=lambda notion: (len(notion[1]), notion[1])))


def is_shared_by_greater(table, row):
    """Whether the row is just what two or more greater rows of the table, or none, share."""
    greater = [other for other in set(table[1]) if set(other) > set(row)]
    chosen = [rows for size in range(len(greater) + 1) if size != 1 for rows in itertools.combinations(greater, size)]
    return any(in_all(rows, table[0]) == row for rows in chosen)


class TestAbout(AnswerCase):
    def test_ordinary_table(self):
        self.tell((4, ((0,), (0, 1, 2), (1,))), about, TABLE)

    def test_one_thing_and_one_mark(self):
        self.tell((1, ((),)), about, (1, ((),)))
        self.tell((1, ((0,),)), about, (1, ((0,),)))
        self.tell((1, ((0,), (), (0,), (), (), (0,))), about, (6, ((0, 2, 5),)))
        self.tell((6, ((0, 2, 5),)), about, (1, ((0,), (), (0,), (), (), (0,))))

    def test_six_things_and_six_marks(self):
        self.tell(but_one(6), about, but_one(6))
        stairs = (6, tuple(tuple(range(size)) for size in range(6)))
        self.tell((6, tuple(tuple(range(least, 6)) for least in range(1, 7))), about, stairs)

    def test_no_room_for_none_and_for_more_than_six(self):
        for many in range(1, 7):
            self.refuse(NoRoom, about, (many, ()))
            for size in (7, 8, 64):
                self.refuse(NoRoom, about, (many, ((0,),) * size))
            self.assertEqual(about((many, ((0,),) * 6))[0], 6)

    def test_about_of_about_is_the_table(self):
        for table in itertools.chain(small_tables(), LARGE):
            if 1 <= len(table[1]) <= 6:
                told = about(table)
                self.assertTrue(plain_things(told))
                self.assertEqual((told[0], len(told[1])), (len(table[1]), table[0]))
                self.assertEqual(about(told), table)

    def test_which_thing_has_which_mark(self):
        for table in small_tables():
            if table[1]:
                told = about(table)
                for thing, mark in itertools.product(range(len(table[1])), range(table[0])):
                    self.assertIs(thing in told[1][mark], mark in table[1][thing])

    def test_its_notions_are_turned_about(self):
        for table in itertools.chain(small_tables(), LARGE):
            if 1 <= len(table[1]) <= 6:
                self.assertEqual(notions(about(table)), turned(notions(table)))


class TestOnly(AnswerCase):
    def test_some_marks_numbered_anew(self):
        self.tell((2, ((0,), (1,), (), ())), only, TABLE, (0, 2))
        self.tell((2, ((0, 1), (0,), (0,), ())), only, (3, ((1, 2), (0, 1), (1,), (0,))), (1, 2))
        self.tell((3, ((0, 2), (1,))), only, (6, ((1, 2, 5), (0, 3))), (1, 3, 5))

    def test_one_mark(self):
        self.tell((1, ((0,), (0,), (0,), ())), only, TABLE, (1,))
        self.tell((1, ((), (0,), (), ())), only, TABLE, (2,))
        self.tell((1, ((0,),)), only, (1, ((0,),)), (0,))

    def test_all_marks(self):
        for table in itertools.chain(small_tables(), LARGE):
            self.assertEqual(only(table, tuple(range(table[0]))), table)

    def test_no_marks(self):
        for table in (TABLE, (1, ()), (6, ()), (1, ((0,),)), but_one(6)):
            self.refuse(NoRoom, only, table, ())

    def test_no_things(self):
        for marks in all_marks(6)[1:]:
            self.tell((len(marks), ()), only, (6, ()), marks)

    def test_each_thing_has_of_these_marks_what_it_had(self):
        for table in itertools.chain(small_tables(), LARGE):
            for marks in all_marks(table[0])[1:]:
                told = only(table, marks)
                self.assertTrue(plain_things(told))
                self.assertEqual((told[0], len(told[1])), (len(marks), len(table[1])))
                for row, new in zip(table[1], told[1]):
                    self.assertEqual(tuple(marks[mark] for mark in new), tuple(mark for mark in row if mark in marks))

    def test_rules_of_these_marks_hold_as_they_did(self):
        for table in tables_of_unlike_rows(3):
            for marks in all_marks(3)[1:]:
                told = only(table, marks)
                for ahead, behind in all_rules(len(marks)):
                    rule = (tuple(marks[mark] for mark in ahead), tuple(marks[mark] for mark in behind))
                    self.assertIs(holds(told, (ahead, behind)), holds(table, rule))

    def test_marks_of_notions_are_what_these_leave_of_them(self):
        for table in itertools.chain(tables_of_unlike_rows(3), LARGE):
            for marks in all_marks(table[0])[1::5]:
                cut = {tuple(mark for mark in other if mark in marks) for other in marks_of_notions(table)}
                told = [tuple(marks[mark] for mark in new) for new in marks_of_notions(only(table, marks))]
                self.assertEqual(told, in_order(cut))


class TestBeside(AnswerCase):
    def test_ordinary_tables(self):
        self.tell((3, ((2,), (0, 1), ())), beside, (3, ((2,),)), (3, ((0, 1), ())))
        self.tell((3, ((0, 1), (), (2,))), beside, (3, ((0, 1), ())), (3, ((2,),)))
        self.tell((3, TABLE[1] + TABLE[1]), beside, TABLE, TABLE)

    def test_no_things_on_either_side(self):
        self.tell(TABLE, beside, TABLE, (3, ()))
        self.tell(TABLE, beside, (3, ()), TABLE)
        for many in range(1, 7):
            self.tell((many, ()), beside, (many, ()), (many, ()))

    def test_64_things_in_all(self):
        for size in (0, 1, 32, 63, 64):
            one = (2, ((0,),) * size)
            other = (2, ((1,),) * (64 - size))
            self.tell((2, ((0,),) * size + ((1,),) * (64 - size)), beside, one, other)

    def test_more_than_64_things(self):
        for size in (1, 32, 33, 64):
            self.refuse(NoRoom, beside, (2, ((0,),) * size), (2, ((1,),) * (65 - size)))
        self.refuse(NoRoom, beside, (2, ((0,),) * 64), (2, ((1,),) * 64))

    def test_marks_that_are_not_as_many(self):
        for one, other in itertools.permutations(range(1, 7), 2):
            self.refuse(NoRoom, beside, (one, ()), (other, ()))
            self.refuse(NoRoom, beside, (one, ((0,),)), (other, ((0,),)))
        self.refuse(NoRoom, beside, (1, ((0,),) * 40), (2, ((0,),) * 40))

    def test_just_what_holds_in_both_holds(self):
        for one, other in itertools.product(all_tables(2, 2), repeat=2):
            told = beside(one, other)
            self.assertEqual(told, (2, one[1] + other[1]))
            for rule in all_rules(2):
                self.assertIs(holds(told, rule), holds(one, rule) and holds(other, rule))


class TestPlain(AnswerCase):
    def test_like_rows(self):
        self.tell((2, ((0,),)), plain, (2, ((0,), (0,), (0,))))
        self.tell((6, ((0, 5),)), plain, (6, ((0, 5),) * 64))
        self.tell((2, ((0,), (1,))), plain, (2, ((1,), (0,), (1,), (0,))))

    def test_by_the_order_of_marks(self):
        self.tell((4, ((3,), (0, 1), (0, 2), (1, 2))), plain, (4, ((1, 2), (0, 2), (3,), (0, 1))))
        self.tell((3, ((2,), (0, 1))), plain, (3, ((0, 1), (2,), ())))

    def test_a_row_of_all_marks(self):
        self.tell((3, ()), plain, (3, (WHOLE,)))
        self.tell((3, ()), plain, (3, (WHOLE, WHOLE)))
        self.tell((3, ((0, 1),)), plain, (3, (WHOLE, (0, 1))))
        self.tell((1, ()), plain, (1, ((0,),)))
        self.tell((1, ((),)), plain, (1, ((0,), ())))

    def test_a_row_that_two_greater_ones_share(self):
        self.tell((3, ((0, 1), (1, 2))), plain, (3, ((0, 1), (1, 2), (1,))))
        self.tell((2, ((0,), (1,))), plain, (2, ((), (0,), (1,))))
        # The row of all marks counts as a greater one, but what it shares with another is that other.
        self.tell((3, ((1,), (1, 2))), plain, (3, ((1,), WHOLE, (1, 2))))

    def test_a_row_that_three_greater_ones_share_and_no_two(self):
        rows = ((0, 1), (0, 2), (1, 2))
        self.tell((3, rows), plain, (3, rows + ((),)))
        self.tell((4, ((0, 1, 2), (0, 1, 3), (0, 2, 3))), plain, (4, ((0,), (0, 1, 2), (0, 1, 3), (0, 2, 3))))

    def test_a_row_that_is_less_than_one_alone(self):
        self.tell((3, ((0,), (0, 1))), plain, (3, ((0,), (0, 1))))
        self.tell((3, ((0,), (0, 1))), plain, (3, ((0, 1), (0,), (0, 1))))
        self.tell((3, ((), (0,), (0, 1))), plain, (3, ((0, 1), (0,), ())))
        self.tell((3, ((), (0, 1))), plain, (3, ((), WHOLE, (0, 1), ())))

    def test_greater_rows_that_share_more(self):
        self.tell((3, ((), (0, 1), (0, 2))), plain, (3, ((0, 2), (), (0, 1), (0,))))
        self.tell((4, ((), (0, 1), (0, 2))), plain, (4, ((), (0, 1), (0, 2))))

    def test_greater_rows_that_are_spared_themselves(self):
        # What shares () is (0,), itself shared by two, and (3,); it is spared by the rows that stay as well.
        self.tell((4, ((3,), (0, 1), (0, 2))), plain, (4, ((), (0,), (3,), (0, 1), (0, 2))))

    def test_no_things(self):
        for many in range(1, 7):
            self.tell((many, ()), plain, (many, ()))

    def test_all_marks_closed(self):
        for many in range(1, 7):
            self.tell((many, tuple(in_order(but_one(many)[1]))), plain, (many, tuple(all_marks(many))))
            self.tell((many, tuple(in_order(but_one(many)[1]))), plain, (many, tuple(reversed(all_marks(many)))))

    def test_word_by_word(self):
        for table in itertools.chain(small_tables(), tables_of_unlike_rows(3), LARGE[:4]):
            rows = [row for row in in_order(set(table[1])) if not is_shared_by_greater(table, row)]
            self.tell((table[0], tuple(rows)), plain, table)

    def ask_plain(self, table):
        told = plain(table)
        self.assertTrue(plain_things(told))
        self.assertEqual(told[0], table[0])
        self.assertEqual(list(told[1]), in_order(set(told[1])))
        self.assertLessEqual(set(told[1]), set(table[1]))
        self.assertEqual(marks_of_notions(told), marks_of_notions(table))
        self.assertEqual(base(told), base(table))
        self.assertEqual(plain(told), told)
        for row in told[1]:
            rest = (told[0], tuple(other for other in told[1] if other != row))
            self.assertNotEqual(marks_of_notions(rest), marks_of_notions(table))

    def test_same_marks_of_notions_and_no_row_to_spare(self):
        for table in itertools.chain(small_tables(), tables_of_unlike_rows(3), LARGE):
            self.ask_plain(table)

    def test_no_fewer_rows_have_the_same_marks_of_notions(self):
        for many in (1, 2, 3):
            fewest = {}
            tables = list(tables_of_unlike_rows(many))
            for table in tables:
                known = tuple(sorted(set(table_closing(table).values())))
                fewest[known] = min(fewest.get(known, 64), len(table[1]))
            for table in tables:
                known = tuple(sorted(set(table_closing(table).values())))
                self.assertEqual(len(plain(table)[1]), fewest[known])


# Tables somewhat beyond their bounds are not refused but where a point says so.
class TestBeyond(AnswerCase):
    def test_seven_marks_and_65_things(self):
        self.tell((1, ((0,), (), (), (), (), (), (0,))), about, (7, ((0, 6),)))
        self.tell((2, ((0, 1),) * 65), only, (7, ((0, 6),) * 65), (0, 6))
        self.tell((7, ((0, 6), (6,))), beside, (7, ((0, 6),)), (7, ((6,),)))
        self.tell((7, ((0, 6),)), plain, (7, ((0, 6),) * 65))


if __name__ == "__main__":
    unittest.main()
