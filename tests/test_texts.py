"""[18] Texts."""

import itertools
import re
import unittest

from runcolumns.errors import BadTable, BadText
from runcolumns.tables import Table
from runcolumns.texts import read_runs, read_table, runs_text, table_text
from tests.cases import Case
from tests.samples import HUGE, NO_TABLES, ODD_OBJECTS, grouped_runs, some_tables

EXAMPLES = r"""
>>> from runcolumns.tables import Table
>>> from runcolumns.texts import read_runs, read_table, runs_text, table_text
>>> table = Table([(0, 0), (0, 1), (1, 1), (1, 0)])
>>> [table_text(table), runs_text(table), read_table('0 3\n').rows, read_runs('0x2\n1x1 2x1\n').rows]
['0 0\n0 1\n1 1\n1 0\n', '0x2 1x2\n0x1 1x2 0x1\n', ((0, 3),), ((0, 1), (0, 2))]
"""

TABLE = Table([(0, 0), (0, 1), (1, 1), (1, 0)])
TABLES = some_tables(many=100) + [
    TABLE, Table([(6, 6, 6, 6)] * 10), Table([(at % 2,) for at in range(10)]), Table([(0, 1, 2, 3)]), Table([(0,)] * 9)]
SIGNS = ["0", "1", "6", "7", "9", "x", " ", "\n", "-", "+", ".", "\t", "\r", "X", "a", "\0", "\u0663", "\u00b2", "\u2028", ","]


def form_of_rows(text):
    """Whether a text has exactly the form of the rows of a table."""
    if not re.fullmatch(r"([0-6]( [0-6]){0,3}\n){1,10}", text, flags=re.ASCII):
        return False
    return len({len(line.split()) for line in text.splitlines()}) == 1


def form_of_runs(text):
    """Whether a text has exactly the form of the columns of a table in runs."""
    run = r"[0-6]x([1-9]|10)"
    if not re.fullmatch(f"({run}( {run})*\n){{1,4}}", text, flags=re.ASCII):
        return False
    columns = [[tuple(map(int, part.split("x"))) for part in line.split()] for line in text.splitlines()]
    if len({sum(many for _, many in runs) for runs in columns}) != 1 or sum(many for _, many in columns[0]) > 10:
        return False
    return all(one[0] != other[0] for runs in columns for one, other in zip(runs, runs[1:]))


class TextsTest(Case):

    def test_examples(self):
        self.check_examples(EXAMPLES)

    def test_there_and_back(self):
        for table in TABLES:
            rows = [" ".join(str(value) for value in row) for row in table.rows]
            self.assertEqual(table_text(table), "\n".join(rows) + "\n")
            columns = [grouped_runs([row[c] for row in table.rows]) for c in range(table.width)]
            lines = [" ".join(f"{value}x{many}" for value, many in runs) for runs in columns]
            self.assertEqual(runs_text(table), "\n".join(lines) + "\n")
            self.assertTrue(form_of_rows(table_text(table)) and form_of_runs(runs_text(table)))
            for found in (read_table(table_text(table)), read_runs(runs_text(table))):
                self.assertIsInstance(found, Table)
                self.assertEqual(found, table)

    def test_some_texts(self):
        self.assertEqual(runs_text(Table([(6, 0)] * 10)), "6x10\n0x10\n")
        self.assertEqual(table_text(Table([(3,)])), "3\n")
        self.assertEqual(read_runs("6x10\n0x10\n").rows, ((6, 0),) * 10)
        self.assertEqual(read_runs("0x1 1x1\n2x2\n3x1 0x1\n5x2\n").rows, ((0, 2, 3, 5), (1, 2, 0, 5)))
        self.assertEqual(read_table("0 1 2 3\n").rows, ((0, 1, 2, 3),))

    def test_one_sign_more_or_less_or_changed(self):
        for table in (TABLE, Table([(5,)]), Table([(at % 3, 6) for at in range(10)]), Table([(1, 2, 3, 4)] * 2)):
            for text, read, has_form, write in (
                    (table_text(table), read_table, form_of_rows, table_text),
                    (runs_text(table), read_runs, form_of_runs, runs_text)):
                for at in range(len(text) + 1):
                    for sign in SIGNS + [""]:
                        self.check_text(text[:at] + sign + text[at:], read, has_form, write)
                        self.check_text(text[:at] + sign + text[at + 1:], read, has_form, write)

    def check_text(self, text, read, has_form, write):
        """Check that a text is read if it has the form, and that its first wrong line is told if it has not."""
        if has_form(text):
            self.assertEqual(write(read(text)), text)
            return
        line = self.refused(BadText, read, text).line
        lines = text.split("\n")
        # The lines ahead of the wrong one can be read by themselves, but not together with it.
        self.assertTrue(0 <= line <= len(lines) - 1)
        ahead = "".join(held + "\n" for held in lines[:line])
        self.assertTrue(line == 0 or has_form(ahead), (text, line))
        if line < len(lines) - 1:
            self.assertFalse(has_form(ahead + lines[line] + "\n"), (text, line))
        else:
            self.assertTrue(line == 0 or lines[-1] != "", (text, line))

    def test_all_short_texts(self):
        for signs, read, has_form, write in (("06 \n", read_table, form_of_rows, table_text),
                                             ("02x \n", read_runs, form_of_runs, runs_text)):
            for many in range(7):
                for text in itertools.product(signs, repeat=many):
                    self.check_text("".join(text), read, has_form, write)


class BadTextsTest(Case):

    def line_of(self, read, text):
        return self.refused(BadText, read, text).line

    def test_no_strings(self):
        for read in (read_table, read_runs):
            for odd in [odd for odd in ODD_OBJECTS if not isinstance(odd, str)] + [0, HUGE, ("0\n",), ["0", "1"], b"0x1\n"]:
                self.assertEqual(self.line_of(read, odd), 0)

    def test_no_lines(self):
        for read in (read_table, read_runs):
            for text in ("", " ", "0", "0x1", "0 1", "abc", "0x1 1x1", "\r", "0\r", "0x1\u2028"):
                self.assertEqual(self.line_of(read, text), 0, text)

    def test_lines_that_are_no_rows(self):
        wrong = ["", " ", "0 ", " 0", "0  0", "00", "0 00", "01 0", "7", "0 7", "-1", "+1", "0,0", "0\t0", "0 0\r", "0.0",
                 "a", "0 a", "0 0 0 0 0", "\u0660", "\u00b2", "0\u00a00", "0x1", "10", "1_0", "0 -0", "None", "0 0 0", "0"]
        for line in wrong:
            for at in range(1, 5):
                text = "0 1\n" * at + line + "\n"
                self.assertEqual(self.line_of(read_table, text), at, text)
                self.assertEqual(self.line_of(read_table, text + "0 1\n" * 3), at)
                self.assertEqual(self.line_of(read_table, text + "7\n0 1"), at)
        for line in wrong[:-2]:
            self.assertEqual(self.line_of(read_table, line + "\n0 1\n"), 0)

    def test_number_of_rows(self):
        self.assertEqual(len(read_table("3\n" * 10)), 10)
        for rest in ("", "3\n", "7\n", "3", "\n"):
            self.assertEqual(self.line_of(read_table, "3\n" * 11 + rest), 10)
        self.assertEqual(self.line_of(read_table, "3\n" * 100000), 10)
        self.assertEqual(self.line_of(read_table, "3\n" * 9 + "x\n" + "3\n"), 9)
        self.assertEqual(self.line_of(read_table, "3\n" * 10 + "3"), 10)
        self.assertEqual(self.line_of(read_table, "3\n" * 10 + "\n"), 10)

    def test_signs_behind_the_last_line_feed(self):
        for rest in ("0", "0 1", " ", "x", "\r", "7"):
            for many in (1, 2, 3):
                self.assertEqual(self.line_of(read_table, "0 1\n" * many + rest), many)
                self.assertEqual(self.line_of(read_runs, "0x2\n" * many + rest), many)
        self.assertEqual(self.line_of(read_runs, "0x2\n" * 4 + "0x2"), 4)
        self.assertEqual(self.line_of(read_table, "0 1\n7 1\n0 1"), 1)
        self.assertEqual(self.line_of(read_runs, "0x2\n0x3\n0x2"), 1)

    def test_lines_that_are_no_runs(self):
        wrong = ["", " ", "2", "2x", "x3", "x", "2x0", "2x03", "02x3", "2x3 ", " 2x3", "0x1  1x2", "2 x3", "2x 3", "2X3",
                 "7x3", "-1x3", "2x-3", "2x+3", "2x3x1", "2xx3", "0x1 0x2", "1x1 0x1 0x1", "2x11", "2x4", "2x2", "0x1 1x1",
                 "0x1 1x3", "0x1,1x2", "0x1\t1x2", "2x3\r", "ax3", "2xa", "2x\u0663", "\u0662x3", "2x3.0", "0 0", "2x1000",
                 "2x" + "9" * 5000, "0x1 1x1 2x0 1x1", "2x_3", "2x3 1x0"]
        for line in wrong:
            for at in range(1, 4):
                text = "0x1 1x2\n" * at + line + "\n"
                self.assertEqual(self.line_of(read_runs, text), at, text)
                self.assertEqual(self.line_of(read_runs, text + "5x3\n\n"), at)
                self.assertEqual(self.line_of(read_runs, text + "5x3"), at)

    def test_first_line_of_runs(self):
        wrong = ["", "0", "0x0", "0x11", "0x10 1x1", "0x5 1x6", "0x5 0x5", "0x1 " * 11, " 0x1", "0x1 1x0", "7x1", "0x01",
                 "0x1 1x1 0x1 1x1 0x1 1x1 0x1 1x1 0x1 1x1 0x1"]
        for line in wrong:
            for rest in ("", "0x1\n", "0x11\n", "0x1"):
                self.assertEqual(self.line_of(read_runs, line + "\n" + rest), 0)
        self.assertEqual(len(read_runs("0x1 1x1 0x1 1x1 0x1 1x1 0x1 1x1 0x1 1x1\n")), 10)

    def test_number_of_columns(self):
        self.assertEqual(read_runs("3x2\n" * 4).width, 4)
        for rest in ("", "3x2\n", "3x3\n", "3x2", "\n"):
            self.assertEqual(self.line_of(read_runs, "3x2\n" * 5 + rest), 4)
        self.assertEqual(self.line_of(read_runs, "3x2\n" * 4 + "\n"), 4)
        self.assertEqual(self.line_of(read_runs, "3x2\n" * 3 + "3x1\n3x2\n"), 3)

    def test_wrong_tables(self):
        for call in (table_text, runs_text):
            self.check_arguments(call, (TABLE, BadTable, NO_TABLES))


if __name__ == "__main__":
    unittest.main()
