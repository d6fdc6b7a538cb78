import unittest

from markhall.errors import MarkError, NoAnswer, NoQuestion, NoRoom, NoText, NoThing

REFUSALS = (NoThing, NoText, NoQuestion, NoAnswer, NoRoom)


class TestErrors(unittest.TestCase):
    def test_mark_error_is_a_value_error(self):
        self.assertTrue(issubclass(MarkError, ValueError))

    def test_each_refusal_is_a_mark_error(self):
        for refusal in REFUSALS:
            with self.subTest(refusal=refusal.__name__):
                self.assertTrue(issubclass(refusal, MarkError))

    def test_none_is_below_another(self):
        for one in REFUSALS:
            for other in REFUSALS:
                with self.subTest(one=one.__name__, other=other.__name__):
                    self.assertEqual(issubclass(one, other), one is other)
        for refusal in REFUSALS:
            self.assertFalse(issubclass(MarkError, refusal))

    def test_each_is_raised_with_words_and_taken_as_any_above_it(self):
        for refusal in REFUSALS:
            for taken in (refusal, MarkError, ValueError):
                with self.subTest(refusal=refusal.__name__, taken=taken.__name__):
                    with self.assertRaises(taken):
                        raise refusal("some words")


if __name__ == "__main__":
    unittest.main()
