import copy
import unittest

from dialecthall.errors import DialectError, NoTable
from dialecthall.tokens import tokens_of
from tests.helper import LINE, SIGNS, model_tokens, things_but_tables

PART, END = ("part", ""), ("end", "")


class Tokens(unittest.TestCase):
    def test_ordinary_tables(self):
        self.assertEqual(tokens_of([["ab", "c"], ["d"]]),
                         [("put", "a"), ("put", "b"), PART, ("put", "c"), END, ("put", "d"), END])
        self.assertEqual(tokens_of([["a,b", "'"]]), [("put", "a"), ("put", ","), ("put", "b"), PART, ("put", "'"), END])

    def test_no_rows_and_no_signs(self):
        self.assertEqual(tokens_of([]), [])
        self.assertEqual(tokens_of([[""]]), [END])
        self.assertEqual(tokens_of([["", ""]]), [PART, END])
        self.assertEqual(tokens_of([["", "", ""], [""], ["", ""]]), [PART, PART, END, END, PART, END])
        self.assertEqual(tokens_of([["", "a"], ["b", ""]]), [PART, ("put", "a"), END, ("put", "b"), PART, END])

    def test_each_sign(self):
        for sign in SIGNS:
            self.assertEqual(tokens_of([[sign, "a" + sign]]), [("put", sign), PART, ("put", "a"), ("put", sign), END])

    def test_line_in_a_cell_is_put(self):
        self.assertEqual(tokens_of([[LINE], ["\n\n"]]), [("put", LINE), END, ("put", LINE), ("put", LINE), END])

    def test_as_many_as_signs_and_cells(self):
        for table in ([["a" * 400]], [[""] * 20] * 60, [["a" * 20] * 20], [["ab", "c", ""]] * 60, [[" "] * 20] * 20):
            tokens = tokens_of(table)
            self.assertEqual(len(tokens), sum(len(cell) + 1 for row in table for cell in row))
            self.assertEqual(tokens, [told[0] for told in model_tokens(table)])

    def test_kinds(self):
        tokens = tokens_of([["a", ""]])
        self.assertIs(tokens.__class__, list)
        for token in tokens:
            self.assertIs(token.__class__, tuple)
            self.assertEqual(len(token), 2)

    def test_by_name(self):
        self.assertEqual(tokens_of(table=[["a"]]), [("put", "a"), END])


class AskersOwn(unittest.TestCase):
    def test_what_is_handed_in_stays(self):
        table = [["a", ""], [LINE]]
        before = copy.deepcopy(table)
        tokens_of(table)
        self.assertEqual(table, before)

    def test_what_is_told_hangs_on_nothing(self):
        table = [["a"], ["b", "c"]]
        first, second = tokens_of(table), tokens_of(table)
        wanted = [("put", "a"), END, ("put", "b"), PART, ("put", "c"), END]
        first[0] = ("put", "x")
        first.append(END)
        self.assertEqual(second, wanted)
        table[1].append("d")
        table.append(["e"])
        self.assertEqual(second, wanted)
        self.assertEqual(tokens_of([["a"], ["b", "c"]]), wanted)
        self.assertEqual(tokens_of(table), wanted[:-1] + [PART, ("put", "d"), END, ("put", "e"), END])


class NoTables(unittest.TestCase):
    def test_whatever_is_no_table(self):
        for thing in things_but_tables():
            with self.assertRaises(DialectError, msg=repr(thing)[:80]) as caught:
                tokens_of(thing)
            self.assertIs(caught.exception.__class__, NoTable)

    def test_asked_again(self):
        for again in range(2):
            self.assertRaises(NoTable, tokens_of, [["a"], []])
            self.assertEqual(tokens_of([["a"]]), [("put", "a"), END])


if __name__ == "__main__":
    unittest.main()
