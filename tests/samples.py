"""Inputs that more than one test file asks about."""

import itertools

# Longer than Python shows a number by itself.
HUGE = 10 ** 6000


def nested(depth, core, kind):
    for _ in range(depth):
        core = kind((core,))
    return core


def all_marks(many):
    return [marks for size in range(many + 1) for marks in itertools.combinations(range(many), size)]


# Never marks, a table, a rule or rules, whatever is asked.
NOTHINGS = (
    None, True, False, 0, 1, -1, 3, 64, HUGE, -HUGE,
    "", " ", "0", "01", "table 1", "rules 1",
    [], [0], [()], [[], []], [((), ())], [1, ()],
    (None,), (True,), (False,), ("",), ("0",), (-1,), (HUGE,), (-HUGE,),
    ([],), ([0],), ([[], []],), ([(), ()],), (3, (), ()), ((), 3),
    nested(30, (), tuple), nested(30, 0, tuple), nested(30, None, tuple),
    nested(30, [], list), nested(30, 0, list),
)

# No marks where there are three.
NO_MARKS = (
    (3,), (4,), (0, 3), (0, 1, 2, 3), (-1,), (-1, 0), (HUGE,), (0, HUGE), (-HUGE,), (-HUGE, 0),
    (0, 0), (2, 2), (0, 1, 1), (0, 0, 1), (1, 0), (2, 1), (0, 2, 1), (2, 0, 1),
    (True,), (False,), (0, True), (False, 1), (False, True), (0, True, 2),
    (None,), (0, None), (None, 1), ("0",), (0, "1"), ("",), ("01",),
    ((),), ((0,),), (0, (1,)), ([],), ([0],), (0, [1]),
    [], [0], [0, 1, 2], "", "0", "012", None, True, False, 0, 1, HUGE,
    nested(30, (), tuple), nested(30, 0, tuple), nested(30, [], list),
)

# In the place of a table's number of marks.
NO_MANY = (0, 7, 8, -1, -3, HUGE, -HUGE, True, False, None, "", "1", "3", (), (1,), [], [1])

# In the place of a table's rows.
NO_ROWS = ([], [()], [(0,), (1,)], None, True, False, 0, 3, "", "0", "table", (0,), (0, 1), ("0",))

# In the place of a rule of three marks.
NO_RULES = (
    (), ((),), ((0,),), ((), (), ()), ((0,), (1,), (2,)), [(), ()], [(0,), (1,)], (0, 1),
    None, True, False, 0, 3, HUGE, "", "if then end",
)


def all_tables(many, most):
    """Every table of so many marks and at most so many things."""
    for size in range(most + 1):
        for rows in itertools.product(all_marks(many), repeat=size):
            yield (many, rows)


def all_rules(many):
    return list(itertools.product(all_marks(many), repeat=2))


def but_one(many):
    """The table in which each thing lacks one mark alone: all marks are closed."""
    everything = tuple(range(many))
    return (many, tuple(everything[:mark] + everything[mark + 1:] for mark in everything))


# Of six marks, with notions of many sizes.
LARGE = (
    (6, ((0, 1, 2), (0, 3), (1, 3, 5), (2, 4), (0, 1, 2, 3, 4, 5), (), (4, 5), (0, 1, 2))),
    (6, ((0, 2, 4), (1, 3, 5), (0, 1, 4, 5), (2, 3), (0, 1, 2, 3), (2, 3, 4, 5))),
    (6, tuple(tuple(range(size)) for size in range(7))),
    (6, tuple((mark,) for mark in range(6))),
    (6, tuple(all_marks(6))),
    (6, tuple(reversed(all_marks(6)))),
    (6, ((0, 5),) * 64),
    but_one(6),
    (5, ((0, 1, 2), (1, 2, 3), (2, 3, 4), (0, 3, 4), (0, 1, 4))),
)


def tables_of_unlike_rows(many):
    """Each choice of rows once, in their order: 256 tables of three marks, and their notions are all there can be."""
    rows = all_marks(many)
    for size in range(len(rows) + 1):
        for chosen in itertools.combinations(rows, size):
            yield (many, chosen)


def rows_of_rules(many, most):
    """Every row of at most so many rules, in every order."""
    for size in range(most + 1):
        yield from itertools.product(all_rules(many), repeat=size)


# Rules of six marks: a row of them that need several turns, some at odds, some that tell nothing.
LARGE_RULES = (
    (),
    tuple(((mark,), (mark + 1,)) for mark in range(5)),
    tuple(((mark + 1,), (mark,)) for mark in range(5)),
    (((0, 1), (2,)), ((2, 3), (4, 5)), ((5,), (0,)), ((1, 4), (3,))),
    (((), (2,)), ((2,), (4,)), ((0, 4), (1, 3)), ((0, 1, 2), ())),
    (((0, 1, 2, 3, 4, 5), ()), ((0, 1), (0,)), ((), ())),
    (((), (0, 1, 2, 3, 4, 5)),),
    tuple((pair, (0, 1, 2, 3, 4, 5)) for pair in itertools.combinations(range(6), 3)),
    tuple((marks, tuple(mark for mark in range(6) if mark not in marks)[:1]) for marks in all_marks(6)),
)
