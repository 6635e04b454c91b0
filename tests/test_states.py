import itertools
import unittest

from dialecthall.dialects import Dialect
from dialecthall.signs import is_text
from dialecthall.states import START, ending, is_live, states_of
from tests.helper import LINE, TRUTHS, model_length, model_states, model_walk

PLAIN_STATES = [("row", ""), ("cell", ""), ("plain", ""), ("behind", ""), ("freed", "")]
TEXTS = list(itertools.product((",", "a", " ", ",'", "^;,"), ("", "'", "\"'", "'\"", "a ", ",'", "^"),
                               ("", "^", "'", "^'", "\"^", "a,", " ", "'\"")))
DIALECTS = [texts + truths for texts in TEXTS for truths in TRUTHS]


class States(unittest.TestCase):
    def test_start(self):
        self.assertEqual(START, ("row", ""))
        self.assertIsInstance(START, tuple)

    def test_no_quotes(self):
        self.assertEqual(states_of(Dialect(",")), PLAIN_STATES)
        self.assertEqual(states_of(Dialect(",", "", "^", True, True, True, True)), PLAIN_STATES)

    def test_one_quote(self):
        self.assertEqual(states_of(Dialect(",", "'")),
                         PLAIN_STATES + [("within", "'"), ("doubt", "'"), ("freed", "'")])

    def test_two_quotes_in_their_order(self):
        one = [("within", "'"), ("doubt", "'"), ("freed", "'")]
        other = [("within", "\""), ("doubt", "\""), ("freed", "\"")]
        self.assertEqual(states_of(Dialect(",", "'\"")), PLAIN_STATES + one + other)
        self.assertEqual(states_of(Dialect(",", "\"'")), PLAIN_STATES + other + one)

    def test_also_those_to_which_no_reader_comes(self):
        for told in DIALECTS:
            states = states_of(Dialect(*told))
            self.assertIsInstance(states, list)
            self.assertEqual(states, model_states(told))
            self.assertEqual([state.__class__ for state in states], [tuple] * len(states))

    def test_each_list_is_the_askers_own(self):
        for dialect in (Dialect(","), Dialect(",", "'\"", "'", True)):
            first = states_of(dialect)
            kept = list(first)
            second = states_of(dialect)
            first.append(("row", "x"))
            first[0] = None
            self.assertEqual(second, kept)
            self.assertEqual(states_of(dialect), kept)
            second.clear()
            self.assertEqual(states_of(dialect), kept)
            self.assertEqual(states_of(Dialect(*dialect.told())), kept)
        self.assertEqual(START, ("row", ""))

    def test_by_name(self):
        dialect = Dialect(",")
        self.assertEqual(states_of(dialect=dialect), PLAIN_STATES)
        self.assertIs(is_live(dialect=dialect, state=START), True)
        self.assertEqual(ending(dialect=dialect, state=START), "")


class Live(unittest.TestCase):
    def test_all_are_without_a_quote_that_frees(self):
        for told in ((",", "", ""), (",", "'", "^"), (",", "'\"", "^"), (",^", ",'", "^"), (",", "'\"", ",")):
            for truths in TRUTHS:
                dialect = Dialect(*told, *truths)
                for state in states_of(dialect):
                    self.assertIs(is_live(dialect, state), True, (told, state))

    def test_a_quote_that_frees(self):
        for frees in ("'", "'^", "^'"):
            for truths in TRUTHS:
                dialect = Dialect(",", "'\"", frees, *truths)
                dead = [state for state in states_of(dialect) if not is_live(dialect, state)]
                self.assertEqual(dead, [("within", "'"), ("freed", "'")])

    def test_two_quotes_that_free(self):
        dialect = Dialect(",", "'\"", "\"'", True, True, True, True)
        dead = [state for state in states_of(dialect) if is_live(dialect, state) is False]
        self.assertEqual(dead, [("within", "'"), ("freed", "'"), ("within", "\""), ("freed", "\"")])
        for state in PLAIN_STATES + [("doubt", "'"), ("doubt", "\"")]:
            self.assertIs(is_live(dialect, state), True)

    def test_just_where_some_text_leads_to_row(self):
        for told in DIALECTS:
            dialect = Dialect(*told)
            for state in model_states(told):
                self.assertIs(is_live(dialect, state), model_length(told, state) is not None, (told, state))


class Endings(unittest.TestCase):
    def test_lengths(self):
        dialect = Dialect(",", "'", "^")
        lengths = {state: len(ending(dialect, state)) for state in states_of(dialect)}
        self.assertEqual(lengths, {("row", ""): 0, ("cell", ""): 1, ("plain", ""): 1, ("behind", ""): 1,
                                   ("freed", ""): 2, ("within", "'"): 2, ("doubt", "'"): 1, ("freed", "'"): 3})

    def test_those_without_choice(self):
        for truths in TRUTHS:
            dialect = Dialect(",", "'\"", "^", *truths)
            self.assertEqual(ending(dialect, START), "")
            for state in (("cell", ""), ("plain", ""), ("behind", ""), ("doubt", "'"), ("doubt", "\"")):
                self.assertEqual(ending(dialect, state), LINE)
            self.assertEqual(ending(dialect, ("within", "'")), "'\n")
            self.assertEqual(ending(dialect, ("within", "\"")), "\"\n")

    def test_none_where_the_state_is_not_live(self):
        dialect = Dialect(",", "'\"", "'")
        self.assertIsNone(ending(dialect, ("within", "'")))
        self.assertIsNone(ending(dialect, ("freed", "'")))
        self.assertEqual(ending(dialect, ("doubt", "'")), LINE)
        self.assertEqual(ending(dialect, ("within", "\"")), "\"\n")

    def test_each_leads_to_row_and_no_shorter_text_does(self):
        for told in DIALECTS:
            dialect = Dialect(*told)
            for state in model_states(told):
                text = ending(dialect, state)
                length = model_length(told, state)
                if length is None:
                    self.assertIsNone(text, (told, state))
                    continue
                self.assertTrue(is_text(text), (told, state))
                self.assertEqual(len(text), length, (told, state))
                kinds, table, behind, word = model_walk(told, text, state)
                self.assertIsNone(word, (told, state))
                self.assertEqual(behind, START, (told, state))


if __name__ == "__main__":
    unittest.main()
