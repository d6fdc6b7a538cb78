import itertools
import unittest

from markhall.errors import NoText
from markhall.reading import read, read_rules
from markhall.writing import shown, written
from tests.cases import AnswerCase, plain_things
from tests.samples import LARGE, all_marks, all_rules, all_tables

# Every sign that a text that is handed in may have.
SIGNS = [chr(sign) for sign in range(32, 127)] + ["\t", "\n"]
BLANKS = (" ", "  ", "\t", "\n", " \n", "\n ", "\t ", "\n\n")

# In the place of the number 1; none of them is its writing.
NO_ONES = (
    "+1", "-1", "--1", "01", "001", "1_", "_1", "0_1", "1_0", "1_1", "1.", "1.0", "1e0", "0x1", "0b1", "1j", "(1)",
    "1,", "'1'", "one", "I", "l", "True", "", "11", "10" * 50, "0" * 5000 + "1", "1" * 5000, "9" * 5000,
    "1" + "0" * 9000,
    "-" + "9" * 5000,
)


def whole_tables():
    for many, most in ((1, 5), (2, 4), (3, 3), (4, 2), (5, 2), (6, 1)):
        yield from all_tables(many, most)
    yield from LARGE


def whole_rules():
    for many, most in ((1, 4), (2, 2), (3, 2), (4, 1), (5, 1)):
        for size in range(most + 1):
            for rules in itertools.product(all_rules(many), repeat=size):
                yield rules, many


def words_spoilt(words):
    """A word less, twice, exchanged with the next, of another case; a text may come of it that is a writing."""
    for place, word in enumerate(words):
        yield words[:place] + words[place + 1:]
        yield words[:place] + [word] + words[place:]
        yield words[:place] + words[place + 1:place + 2] + [word] + words[place + 2:]
        for other in (word.upper(), word.capitalize(), word.swapcase(), word[1:], word[:-1], word + word):
            yield words[:place] + [other] + words[place + 1:]


def signs_spoilt(text):
    for place in range(len(text) + 1):
        yield text[:place] + text[place + 1:]
        for sign in SIGNS:
            yield text[:place] + sign + text[place:]
            yield text[:place] + sign + text[place + 1:]


class ReadingCase(AnswerCase):
    def is_read(self, asked, *given):
        try:
            asked(*given)
        except NoText:
            return False
        return True

    # A text that is read is the writing of what was read; every other one is refused.
    def held(self, text):
        if self.is_read(read, text):
            self.assertEqual(written(read(text)), text)

    def held_rules(self, text, many):
        if self.is_read(read_rules, text, many):
            self.assertEqual(shown(read_rules(text, many), many), text)


class TestRead(ReadingCase):
    def refused(self, text):
        self.refuse(NoText, read, text)

    def test_ordinary_tables(self):
        self.tell((3, ((0, 1), (1, 2))), read, "table 3 thing 0 1 end thing 1 2 end")
        self.tell((4, ((0,), (), (0, 1, 2, 3))), read, "table 4 thing 0 end thing end thing 0 1 2 3 end")
        self.tell((2, ((1,), (1,), (0,))), read, "table 2 thing 1 end thing 1 end thing 0 end")

    def test_edges(self):
        for many in range(1, 7):
            self.tell((many, ()), read, "table " + str(many))
            self.tell((many, ((),)), read, "table " + str(many) + " thing end")
            self.tell((many, ((),) * 64), read, "table " + str(many) + " thing end" * 64)
            self.tell((many, ((many - 1,),)), read, "table " + str(many) + " thing " + str(many - 1) + " end")
        self.tell((6, ((0, 1, 2, 3, 4, 5),) * 64), read, "table 6" + " thing 0 1 2 3 4 5 end" * 64)

    def test_every_table_that_is_written_is_read_to_the_same(self):
        for table in whole_tables():
            told = read(written(table))
            self.assertEqual(told, table)
            self.assertTrue(plain_things(told))

    def test_just_the_writings_are_read(self):
        words = ("table", "thing", "end", "0", "1", "2", "3")
        writings = {written(table) for many in (1, 2, 3) for table in all_tables(many, 2)}
        for size in range(6):
            for chosen in itertools.product(words, repeat=size):
                for text in (" ".join(chosen), "table 2 " + " ".join(chosen)):
                    self.assertEqual(self.is_read(read, text), text in writings, text)

    def test_no_text_and_blanks_alone(self):
        for text in ("",) + BLANKS:
            self.refused(text)

    def test_blanks_tabs_and_rows_ends(self):
        for text in ("table 1", "table 3 thing 0 1 end thing end"):
            for blank in BLANKS:
                self.refused(blank + text)
                self.refused(text + blank)
            for place in [place for place, sign in enumerate(text) if sign == " "]:
                for blank in ("", "  ", "\t", "\n", " \t", "\t ", " \n", "\n "):
                    self.refused(text[:place] + blank + text[place + 1:])

    def test_a_word_less_twice_exchanged_or_of_another_case(self):
        self.refused("3 thing 0 1 end")
        self.refused("table thing 0 1 end")
        self.refused("table 3 0 1 end")
        self.refused("table 3 thing 0 1")
        self.refused("table 3 thing 0 1 end thing")
        self.refused("table 3 thing 0 1 thing 2 end")
        self.refused("table 3 end")
        self.refused("table table 3 thing 0 1 end")
        self.refused("table 3 3 thing 0 1 end")
        self.refused("table 3 thing thing 0 1 end")
        self.refused("table 3 thing 0 1 end end")
        self.refused("3 table thing 0 1 end")
        self.refused("table thing 3 0 1 end")
        self.refused("table 3 0 thing 1 end")
        self.refused("table 3 thing 0 end 1")
        self.refused("thing 0 1 end table 3")
        for text in ("Table 3 thing 0 end", "TABLE 3 thing 0 end", "table 3 Thing 0 end", "table 3 thing 0 End",
                     "table 3 thing 0 END", "table 3 things 0 end", "tables 3 thing 0 end", "table 3 thing 0 en"):
            self.refused(text)

    def test_words_spoilt(self):
        words = "table 3 thing 0 1 end thing end thing 2 end".split(" ")
        for spoilt in words_spoilt(words):
            self.held(" ".join(spoilt))

    def test_signs_spoilt(self):
        for text in ("table 1", "table 3 thing 0 1 end thing end"):
            for spoilt in signs_spoilt(text):
                self.held(spoilt)

    def test_numbers(self):
        for word in NO_ONES:
            self.refused("table " + word)
            self.refused("table " + word + " thing 0 end")
            self.refused("table 6 thing " + word + " end")
            self.refused("table 6 thing 0 " + word + " end")
        for word in ("-0", "+0", "00", "0_0", "0.0", "0" * 5000):
            self.refused("table 6 thing " + word + " end")

    def test_marks(self):
        for marks in ("1 0", "0 2 1", "2 1 0", "0 0", "2 2", "0 1 1", "3", "0 3", "4", "0 1 2 3", "6", "-1", "0 -1"):
            self.refused("table 3 thing " + marks + " end")
            self.refused("table 3 thing 0 end thing " + marks + " end thing end")
        for many in range(1, 7):
            self.refused("table " + str(many) + " thing " + str(many) + " end")

    def test_how_many_marks_and_things(self):
        for many in ("0", "7", "8", "9", "10", "12", "16", "60", "66"):
            self.refused("table " + many)
            self.refused("table " + many + " thing end")
            self.refused("table " + many + " thing 0 end")
        for row in (" thing end", " thing 0 end"):
            self.tell(64, lambda text: len(read(text)[1]), "table 3" + row * 64)
            for size in (65, 66, 128, 1000):
                self.refused("table 3" + row * size)

    def test_rules_are_no_table(self):
        for rules, many in (((), 1), ((((), ()),), 1), ((((0,), (1, 2)),), 3), ((((0,), (1,)),) * 64, 6)):
            self.refused(shown(rules, many))
        self.refused("table 3 if 0 then 1 end")
        self.refused("rules 3 thing 0 1 end")

    def test_very_long_texts(self):
        for text in ("table 3" + " thing 0 end" * 20000, "table 3 thing" + " 0" * 50000 + " end", "x" * 100000,
                     " " * 100000, "table " * 20000):
            self.refused(text)


class TestReadRules(ReadingCase):
    def refused(self, text, many):
        self.refuse(NoText, read_rules, text, many)

    def test_ordinary_rules(self):
        self.tell((((0,), (1, 2)),), read_rules, "rules 3 if 0 then 1 2 end", 3)
        self.tell((((0, 1), (3,)), ((2,), (0,))), read_rules, "rules 4 if 0 1 then 3 end if 2 then 0 end", 4)
        self.tell((((1,), (1,)), ((1,), (1,))), read_rules, "rules 2 if 1 then 1 end if 1 then 1 end", 2)

    def test_edges(self):
        for many in range(1, 7):
            last = str(many - 1)
            self.tell((), read_rules, "rules " + str(many), many)
            self.tell((((), ()),), read_rules, "rules " + str(many) + " if then end", many)
            self.tell((((), ()),) * 64, read_rules, "rules " + str(many) + " if then end" * 64, many)
            self.tell((((many - 1,), ()),), read_rules, "rules " + str(many) + " if " + last + " then end", many)
            self.tell((((), (many - 1,)),), read_rules, "rules " + str(many) + " if then " + last + " end", many)
        full = (0, 1, 2, 3, 4, 5)
        self.tell(((full, full),) * 64, read_rules, "rules 6" + " if 0 1 2 3 4 5 then 0 1 2 3 4 5 end" * 64, 6)

    def test_all_rules_that_are_written_are_read_to_the_same(self):
        for rules, many in whole_rules():
            told = read_rules(shown(rules, many), many)
            self.assertEqual(told, rules)
            self.assertTrue(plain_things(told))

    def test_just_the_writings_are_read(self):
        words = ("rules", "if", "then", "end", "0", "1", "2")
        writings = {shown(rules, many) for rules, many in whole_rules() if many == 2}
        for size in range(6):
            for chosen in itertools.product(words, repeat=size):
                for text in (" ".join(chosen), "rules 2 if " + " ".join(chosen)):
                    self.assertEqual(self.is_read(read_rules, text, 2), text in writings, text)

    def test_no_text_and_blanks_alone(self):
        for many in range(1, 7):
            for text in ("",) + BLANKS:
                self.refused(text, many)

    def test_blanks_tabs_and_rows_ends(self):
        for text in ("rules 3", "rules 3 if 0 1 then 2 end if then end"):
            for blank in BLANKS:
                self.refused(blank + text, 3)
                self.refused(text + blank, 3)
            for place in [place for place, sign in enumerate(text) if sign == " "]:
                for blank in ("", "  ", "\t", "\n", " \t", "\t ", " \n", "\n "):
                    self.refused(text[:place] + blank + text[place + 1:], 3)

    def test_a_word_less_twice_exchanged_or_of_another_case(self):
        for text in ("3 if 0 then 1 end", "rules if 0 then 1 end", "rules 3 0 then 1 end", "rules 3 if 0 1 end",
                     "rules 3 if 0 then 1", "rules rules 3 if 0 then 1 end", "rules 3 3 if 0 then 1 end",
                     "rules 3 if if 0 then 1 end", "rules 3 if 0 then then 1 end", "rules 3 if 0 then 1 then 2 end",
                     "rules 3 if 0 then 1 end end", "rules 3 end", "rules 3 if", "rules 3 if then",
                     "rules 3 then end", "rules 3 if end", "3 rules if 0 then 1 end", "rules if 3 0 then 1 end",
                     "rules 3 0 if then 1 end", "rules 3 then 0 if 1 end", "rules 3 if 0 end then 1 end",
                     "rules 3 if 0 then end 1", "rules 3 if 0 then 1 if 1 then 2 end"):
            self.refused(text, 3)
        for text in ("Rules 3 if 0 then 1 end", "RULES 3 if 0 then 1 end", "rules 3 If 0 then 1 end",
                     "rules 3 IF 0 then 1 end", "rules 3 if 0 Then 1 end", "rules 3 if 0 then 1 End",
                     "rule 3 if 0 then 1 end", "rules 3 if 0 the 1 end"):
            self.refused(text, 3)

    def test_words_spoilt(self):
        words = "rules 3 if 0 1 then 2 end if then 1 end if 2 then end".split(" ")
        for spoilt in words_spoilt(words):
            for many in range(1, 7):
                self.held_rules(" ".join(spoilt), many)

    def test_signs_spoilt(self):
        for text in ("rules 3", "rules 3 if 0 1 then 2 end if then end"):
            for spoilt in signs_spoilt(text):
                self.held_rules(spoilt, 3)

    def test_numbers(self):
        for word in NO_ONES:
            self.refused("rules " + word, 1)
            self.refused("rules " + word + " if 0 then end", 1)
            self.refused("rules 6 if " + word + " then 0 end", 6)
            self.refused("rules 6 if 0 then " + word + " end", 6)
            self.refused("rules 6 if then 0 " + word + " end", 6)

    def test_marks(self):
        for marks in ("1 0", "0 2 1", "2 1 0", "0 0", "2 2", "0 1 1", "3", "0 3", "4", "0 1 2 3", "6", "-1", "0 -1"):
            self.refused("rules 3 if " + marks + " then end", 3)
            self.refused("rules 3 if then " + marks + " end", 3)
            self.refused("rules 3 if 0 then 1 end if 1 then " + marks + " end", 3)
        for many in range(1, 7):
            self.refused("rules " + str(many) + " if " + str(many) + " then end", many)
            self.refused("rules " + str(many) + " if then " + str(many) + " end", many)

    def test_more_than_64(self):
        for rule in (" if then end", " if 0 then 1 end"):
            self.tell(64, lambda text: len(read_rules(text, 3)), "rules 3" + rule * 64)
            for size in (65, 66, 128, 1000):
                self.refused("rules 3" + rule * size, 3)

    def test_rules_of_another_number_of_marks(self):
        for rules in ((), (((), ()),), (((0,), ()),), (((), (0,)),)):
            for one, other in itertools.permutations(range(1, 7), 2):
                self.refused(shown(rules, one), other)

    # Nothing is refused for the bound of many alone: what shown writes is read again.
    def test_many_beyond_its_bounds(self):
        for many in (0, 7, 8, 12):
            for rules in ((), (((), ()),), ((tuple(range(many)), ()),)):
                self.tell(rules, read_rules, shown(rules, many), many)
                self.refused(shown(rules, many), 6)
        self.refused("rules 7 if 7 then end", 7)
        self.refused("rules 7", 0)

    def test_a_table_is_no_rules(self):
        for many in range(1, 7):
            for table in ((many, ()), (many, ((),)), (many, ((0,),)), (many, tuple(all_marks(many)))):
                self.refused(written(table), many)
        self.refused("rules 3 thing 0 1 end", 3)
        self.refused("table 3 if 0 then 1 end", 3)

    def test_very_long_texts(self):
        for text in ("rules 3" + " if 0 then 1 end" * 20000, "rules 3 if" + " 0" * 50000 + " then end",
                     "rules 3 if" + " then" * 50000 + " end", "x" * 100000, " " * 100000):
            self.refused(text, 3)


if __name__ == "__main__":
    unittest.main()
