"""Names and arguments as the document's interface has them."""

import importlib
import inspect
import unittest

INTERFACE = {
    "things": {
        "are_marks": ["thing", "many"], "is_table": ["thing"],
        "is_rule": ["thing", "many"], "are_rules": ["thing", "many"],
    },
    "writing": {"written": ["table"], "shown": ["rules", "many"]},
    "reading": {"read": ["text"], "read_rules": ["text", "many"]},
    "closing": {
        "shared": ["table", "things"], "having": ["table", "marks"],
        "closed": ["table", "marks"], "holds": ["table", "rule"],
    },
    "notions": {
        "notions": ["table"], "number_of": ["table", "marks"], "below": ["table"], "next_below": ["table"],
        "join": ["table", "one", "other"], "meet": ["table", "one", "other"],
    },
}


class TestInterface(unittest.TestCase):
    def test_names_and_arguments(self):
        for module, functions in INTERFACE.items():
            found = importlib.import_module("markhall." + module)
            for name, arguments in functions.items():
                with self.subTest(module=module, name=name):
                    told = inspect.signature(getattr(found, name)).parameters.values()
                    self.assertEqual([argument.name for argument in told], arguments)
                    self.assertTrue(all(argument.default is inspect.Parameter.empty for argument in told))


if __name__ == "__main__":
    unittest.main()
