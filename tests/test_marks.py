import itertools
import unittest

from markhall.marks import all_marks, are_among, in_both, in_either, without
from tests.cases import AnswerCase
from tests import samples


class TestMarksBesideOthers(AnswerCase):
    def test_all_marks_by_their_number_and_as_tuples(self):
        self.tell(((), (0,)), all_marks, 1)
        self.tell(((), (0,), (1,), (2,), (0, 1), (0, 2), (1, 2), (0, 1, 2)), all_marks, 3)
        for many in range(1, 9):
            told = all_marks(many)
            self.assertEqual(len(told), 2 ** many)
            self.assertEqual(list(told), sorted(set(told), key=lambda marks: (len(marks), marks)))
            self.assertEqual(list(told), samples.all_marks(many))

    def test_each_two_of_four(self):
        for one, other in itertools.product(samples.all_marks(4), repeat=2):
            self.tell(set(one) <= set(other), are_among, one, other)
            self.tell(tuple(sorted(set(one) & set(other))), in_both, one, other)
            self.tell(tuple(sorted(set(one) | set(other))), in_either, one, other)
            self.tell(tuple(sorted(set(one) - set(other))), without, one, other)


if __name__ == "__main__":
    unittest.main()
