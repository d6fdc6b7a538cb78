"""Inputs that more than one test file asks about."""

import itertools

# Longer than Python shows a number by itself.
HUGE = 10 ** 6000


def nested(depth, core, kind):
    for _ in range(depth):
        core = kind((core,))
    return core


def all_marks(many):
    return [marks for size in range(many + 1) for marks in itertools.combinations(range(many), size)]


# Never marks, a table, a rule or rules, whatever is asked.
NOTHINGS = (
    None, True, False, 0, 1, -1, 3, 64, HUGE, -HUGE,
    "", " ", "0", "01", "table 1", "rules 1",
    [], [0], [()], [[], []], [((), ())], [1, ()],
    (None,), (True,), (False,), ("",), ("0",), (-1,), (HUGE,), (-HUGE,),
    ([],), ([0],), ([[], []],), ([(), ()],), (3, (), ()), ((), 3),
    nested(30, (), tuple), nested(30, 0, tuple), nested(30, None, tuple),
    nested(30, [], list), nested(30, 0, list),
)

# No marks where there are three.
NO_MARKS = (
    (3,), (4,), (0, 3), (0, 1, 2, 3), (-1,), (-1, 0), (HUGE,), (0, HUGE), (-HUGE,), (-HUGE, 0),
    (0, 0), (2, 2), (0, 1, 1), (0, 0, 1), (1, 0), (2, 1), (0, 2, 1), (2, 0, 1),
    (True,), (False,), (0, True), (False, 1), (False, True), (0, True, 2),
    (None,), (0, None), (None, 1), ("0",), (0, "1"), ("",), ("01",),
    ((),), ((0,),), (0, (1,)), ([],), ([0],), (0, [1]),
    [], [0], [0, 1, 2], "", "0", "012", None, True, False, 0, 1, HUGE,
    nested(30, (), tuple), nested(30, 0, tuple), nested(30, [], list),
)

# In the place of a table's number of marks.
NO_MANY = (0, 7, 8, -1, -3, HUGE, -HUGE, True, False, None, "", "1", "3", (), (1,), [], [1])

# In the place of a table's rows.
NO_ROWS = ([], [()], [(0,), (1,)], None, True, False, 0, 3, "", "0", "table", (0,), (0, 1), ("0",))

# In the place of a rule of three marks.
NO_RULES = (
    (), ((),), ((0,),), ((), (), ()), ((0,), (1,), (2,)), [(), ()], [(0,), (1,)], (0, 1),
    None, True, False, 0, 3, HUGE, "", "if then end",
)
