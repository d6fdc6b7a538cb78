"""Names and arguments as the document's interface has them."""

import importlib
import inspect
import unittest

from markhall.asking import Asker

INTERFACE = {
    "things": {
        "are_marks": ["thing", "many"], "is_table": ["thing"],
        "is_rule": ["thing", "many"], "are_rules": ["thing", "many"],
    },
    "writing": {"written": ["table"], "shown": ["rules", "many"]},
    "reading": {"read": ["text"], "read_rules": ["text", "many"]},
    "closing": {
        "shared": ["table", "things"], "having": ["table", "marks"],
        "closed": ["table", "marks"], "holds": ["table", "rule"],
    },
    "notions": {
        "notions": ["table"], "number_of": ["table", "marks"], "below": ["table"], "next_below": ["table"],
        "join": ["table", "one", "other"], "meet": ["table", "one", "other"],
    },
    "rules": {"closed_by": ["rules", "marks"], "follows": ["rules", "rule"]},
    "bases": {"base": ["table"], "base_of": ["rules", "many"], "table_of": ["rules", "many"]},
    "asking": {"Asker": ["many"]},
    "changing": {
        "about": ["table"], "only": ["table", "marks"], "beside": ["one", "other"], "plain": ["table"],
    },
}
ASKER = {"question": [], "yes": [], "no": ["marks"], "known": [], "said": [], "asked_so_far": []}


class TestInterface(unittest.TestCase):
    def ask_arguments(self, holder, functions):
        for name, arguments in functions.items():
            with self.subTest(holder=holder, name=name):
                told = inspect.signature(getattr(holder, name)).parameters.values()
                self.assertEqual([argument.name for argument in told], arguments)
                self.assertTrue(all(argument.default is inspect.Parameter.empty for argument in told))

    def test_names_and_arguments(self):
        for module, functions in INTERFACE.items():
            self.ask_arguments(importlib.import_module("markhall." + module), functions)

    def test_the_methods_of_asker(self):
        self.assertIsInstance(Asker, type)
        self.ask_arguments(Asker(3), ASKER)


if __name__ == "__main__":
    unittest.main()
