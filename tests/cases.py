"""What more than one test file asks of each answer and of each refusal."""

import copy
import unittest

from markhall.errors import MarkError


def plain_things(thing):
    """Whether all of it is tuples, texts, whole numbers and None: no list, no other kind."""
    if isinstance(thing, tuple):
        return type(thing) is tuple and all(plain_things(part) for part in thing)
    return thing is None or type(thing) in (int, str)


class AnswerCase(unittest.TestCase):
    # The answer as it is to be, the same when asked again, of plain things, with nothing changed.
    def tell(self, expected, asked, *given):
        before = copy.deepcopy(given)
        told = asked(*given)
        self.assertEqual(told, expected, (asked.__name__, given))
        self.assertEqual(asked(*given), expected, (asked.__name__, given))
        self.assertEqual(given, before)
        if type(expected) is bool:
            self.assertIs(told, expected)
        else:
            self.assertTrue(plain_things(told), told)

    def refuse(self, refusal, asked, *given):
        before = copy.deepcopy(given)
        for taken in (refusal, MarkError, ValueError):
            with self.assertRaises(taken, msg=(asked.__name__, given)) as caught:
                asked(*given)
            self.assertIs(type(caught.exception), refusal)
        self.assertEqual(given, before)
