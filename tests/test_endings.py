import unittest

from dialecthall.dialects import Dialect
from dialecthall.endings import go_on
from dialecthall.errors import DialectError, NoText
from dialecthall.reading import read
from dialecthall.signs import is_text
from tests.helper import (LINE, NO_SIGNS, TRUTHS, all_texts, model_far, model_length, model_walk, things_but_texts)

TOLD = [(",", "", ""), (",", "'", "^"), (",", "'", "'"), (",'", "'^", ""), (", ", "'", ","), ("a", "a", "a"),
        (",", "',", "'")]


class Going(unittest.TestCase):
    def test_where_it_needs_no_sign(self):
        for dialect in (Dialect(","), Dialect(",", "'", "^", True), Dialect("a", "a", "a")):
            for text in ("", LINE, "b\n", "\n\n\n"):
                self.assertEqual(go_on(dialect, text), "")
        self.assertEqual(go_on(Dialect(",", thin=True), "  "), "")

    def test_where_line_is_all_that_is_missing(self):
        for text in ("a", ",", "a,", "a\nb", "'a'", "'a',", "^a", " "):
            self.assertEqual(go_on(Dialect(",", "'", "^"), text), LINE)
        self.assertEqual(go_on(Dialect(",", "'", twin=True), "'a'"), LINE)
        self.assertEqual(go_on(Dialect(",", "'", twin=True), "''''"), LINE)

    def test_within_quotes(self):
        for truths in TRUTHS:
            dialect = Dialect(",", "'\"", "^", *truths)
            self.assertEqual(go_on(dialect, "'a"), "'\n")
            self.assertEqual(go_on(dialect, "b\n\"a'"), "\"\n")

    def test_behind_a_freeing_sign(self):
        for truths in TRUTHS:
            dialect = Dialect(",", "'", "^", *truths)
            for text, length in (("^", 2), ("a^", 2), ("a\nb,^", 2), ("'^", 3), ("'a^", 3), ("a,'^^^", 3)):
                more = go_on(dialect, text)
                self.assertEqual(len(more), length, text)
                self.assertEqual(model_far(dialect.told(), text + more), None)

    def test_the_most_that_is_needed(self):
        more = go_on(Dialect(",", "'", "^"), "'^")
        self.assertEqual(len(more), 3)
        self.assertEqual(more[1:], "'\n")
        self.assertEqual(len(read(Dialect(",", "'", "^"), "'^" + more)[0][0]), 1)

    def test_where_there_is_no_such_text(self):
        dialect = Dialect(",", "'", "^")
        for text in ("a'", "'\n", "'a'b", "^\n", "a\n'' ", "'^\n", "a'\n"):
            self.assertIsNone(go_on(dialect, text), text)
        for text in ("'\n", "^\n", "'^\n"):
            self.assertIsNotNone(go_on(Dialect(",", "'", "^", wide=True), text), text)

    def test_a_quote_that_frees_never_opens(self):
        dialect = Dialect(",", "'\"", "'")
        self.assertEqual(len(go_on(dialect, "'")), 2)
        self.assertEqual(len(go_on(dialect, "\"'")), 3)
        self.assertEqual(go_on(dialect, "''"), LINE)

    def test_a_quote_that_parts(self):
        self.assertEqual(go_on(Dialect("'", "'"), "'"), "'\n")
        self.assertEqual(go_on(Dialect("'", "'"), "a'"), LINE)
        self.assertEqual(go_on(Dialect("'", "'"), "''"), LINE)

    def test_both_together_with_more_than_2000_signs(self):
        dialect = Dialect(",", "'", "^")
        text = "a" * 2000
        self.assertEqual(go_on(dialect, text), LINE)
        self.assertEqual(go_on(dialect, "'" + "a" * 1999), "'\n")
        text = "'" + "a" * 1998 + "^"
        more = go_on(dialect, text)
        self.assertEqual(len(more), 3)
        self.assertEqual(model_far(dialect.told(), text + more), None)
        self.assertEqual(go_on(dialect, LINE * 2000), "")

    def test_every_short_text(self):
        for told in TOLD:
            for truths in TRUTHS:
                seven = told + truths
                dialect = Dialect(*seven)
                for text in all_texts(",'^ a\n", 3):
                    self.as_the_model(seven, dialect, text)

    def as_the_model(self, seven, dialect, text):
        kinds, table, state, word = model_walk(seven, text)
        length = model_length(seven, state) if word is None else None
        more = go_on(dialect, text)
        if length is None:
            self.assertIsNone(more, (seven, text))
            return
        self.assertTrue(is_text(more), (seven, text))
        self.assertEqual(len(more), length, (seven, text))
        self.assertIsNone(model_far(seven, text + more), (seven, text))
        self.assertEqual(read(dialect, text + more)[:len(table)], table)

    def test_asked_again_and_by_name(self):
        dialect = Dialect(",", "'", "^")
        for again in range(2):
            self.assertEqual(go_on(dialect=dialect, text="'a"), "'\n")
            self.assertIsNone(go_on(dialect, "a'"))
        self.assertEqual(dialect.told(), (",", "'", "^", False, False, False, False))


class NoTexts(unittest.TestCase):
    def refused(self, thing):
        with self.assertRaises(DialectError, msg=repr(thing)) as caught:
            go_on(Dialect(",", "'"), thing)
        self.assertIs(caught.exception.__class__, NoText)

    def test_things_of_other_kinds(self):
        for thing in things_but_texts():
            self.refused(thing)

    def test_signs_and_length(self):
        for sign in NO_SIGNS:
            self.refused(sign)
            self.refused("a" + sign + LINE)
        self.refused("a" * 2001)
        self.refused(LINE * 2001)

    def test_ahead_of_all_else(self):
        self.refused("a'\t")
        self.refused("a'%")
        self.refused("a'" + LINE * 1999)


if __name__ == "__main__":
    unittest.main()
