import copy
import random
import unittest

from dialecthall.asking import Asker
from dialecthall.dialects import Dialect
from dialecthall.errors import NoAsk, TooMany
from dialecthall.reading import read
from dialecthall.signs import is_text
from tests.helper import SMALL, about, are_alike, lists_of_told, made, model_groups, model_table, refusal, turned

NONE = (False, False, False, False)
COMMA, SEMI, QUOTING = (",", "", "") + NONE, (";", "", "") + NONE, (",", "'", "") + NONE
THIN = (",", "", "", False, False, True, False)
NEVER = [["none", "of", "them", "reads", "this"]]


class Asking(unittest.TestCase):
    def is_as(self, asker, left, asked):
        self.assertEqual(asker.left(), left)
        self.assertIsInstance(asker.left(), list)
        self.assertEqual(asker.asked(), asked)
        self.assertIs(asker.asked().__class__, int)

    def refuses(self, asker, answer=None):
        """Nothing waits for an answer, and nothing is changed by one."""
        before = asker.left(), asker.asked()
        self.assertEqual(refusal(asker.hear, answer), (NoAsk,))
        self.is_as(asker, *before)

    def asks_well(self, all_told, asker):
        """A text that some two of those left read unlike, told again and again."""
        text = asker.ask()
        left = asker.left()
        for again in range(2):
            self.assertEqual(asker.ask(), text)
            self.assertEqual(asker.left(), left)
        if text is None:
            self.assertTrue(all(are_alike(all_told[left[0]], all_told[place]) for place in left[1:]), (all_told, left))
        else:
            self.assertTrue(is_text(text), (all_told, text))
            tables = [model_table(all_told[place], text) for place in left]
            self.assertTrue(any(table != tables[0] for table in tables), (all_told, left, text))
        return text

    def find_out(self, all_told, hidden, asker):
        """How many answers it took."""
        self.is_as(asker, list(range(len(all_told))), 0)
        text = self.asks_well(all_told, asker)
        while text is not None:
            before, heard = asker.left(), asker.asked()
            answer = model_table(all_told[hidden], text)
            self.assertIsNone(asker.hear(answer))
            left = [place for place in before if model_table(all_told[place], text) == answer]
            self.is_as(asker, left, heard + 1)
            self.assertLess(len(left), len(before))
            text = self.asks_well(all_told, asker)
        self.refuses(asker)
        return asker.asked()


class Ordinary(Asking):
    def test_two(self):
        for hidden in (0, 1):
            asker = Asker(made([COMMA, SEMI]))
            self.assertEqual(self.find_out([COMMA, SEMI], hidden, asker), 1)
            self.is_as(asker, [hidden], 1)

    def test_none_and_one(self):
        for dialects in ([], made([COMMA]), made([COMMA, COMMA]), made([COMMA, turned(COMMA, 3)] * 6)):
            asker = Asker(dialects)
            self.is_as(asker, list(range(len(dialects))), 0)
            self.assertIsNone(asker.ask())
            self.assertIsNone(asker.ask())
            self.refuses(asker)
            self.is_as(asker, list(range(len(dialects))), 0)

    def test_alike_ones_stay_together(self):
        some = [COMMA, QUOTING, COMMA, turned(COMMA, 3), about((",;", "", "") + NONE), (",;", "", "") + NONE]
        for hidden, left in ((0, [0, 2, 3]), (1, [1]), (3, [0, 2, 3]), (4, [4, 5])):
            asker = Asker(made(some))
            self.find_out(some, hidden, asker)
            self.assertEqual(asker.left(), left)

    def test_answered_by_reading(self):
        # None stands for failing, and the table without rows is no failing.
        asker = Asker(made([THIN, COMMA]))
        text = asker.ask()
        self.assertNotEqual(model_table(THIN, text), model_table(COMMA, text))
        asker.hear(model_table(THIN, text))
        self.assertEqual(asker.left(), [0])

    def test_by_name(self):
        asker = Asker(dialects=made([COMMA, SEMI]))
        text = asker.ask()
        asker.hear(answer=read(Dialect(";"), text))
        self.is_as(asker, [1], 1)


class EachHidden(Asking):
    def test_by_chance(self):
        for some in lists_of_told(random.Random(91), 130):
            places = model_groups(some)
            for group in places:
                for hidden in group:
                    asker = Asker(made(some))
                    many = self.find_out(some, hidden, asker)
                    self.assertLess(many, len(places), (some, hidden))
                    self.assertEqual(asker.left(), group, (some, hidden))

    def test_each_truth_and_role(self):
        for start in range(0, len(SMALL), 28):
            some = SMALL[start:start + 28:3]
            for group in model_groups(some):
                asker = Asker(made(some))
                self.assertLess(self.find_out(some, group[0], asker), len(model_groups(some)))
                self.assertEqual(asker.left(), group)

    def test_twelve_unlike_ones(self):
        some = [(sign, "", "") + NONE for sign in "abcdefghijkl"]
        for hidden in range(12):
            asker = Asker(made(some))
            self.assertLess(self.find_out(some, hidden, asker), 12)
            self.assertEqual(asker.left(), [hidden])

    def test_a_reader_that_is_none_of_them(self):
        # Its answers may be like those of some of them, until none is left.
        some = [COMMA, SEMI, QUOTING, THIN]
        hidden = (":", "", "") + NONE
        asker = Asker(made(some))
        text = asker.ask()
        while text is not None:
            before = asker.left()
            answer = model_table(hidden, text)
            asker.hear(answer)
            self.assertEqual(asker.left(), [place for place in before if model_table(some[place], text) == answer])
            text = asker.ask()


class Refused(Asking):
    def test_an_answer_without_a_question(self):
        asker = Asker(made([COMMA, SEMI]))
        self.refuses(asker)
        self.refuses(asker, [["a"]])
        self.is_as(asker, [0, 1], 0)
        self.assertIsNotNone(asker.ask())

    def test_an_answer_behind_the_last_one(self):
        some = [COMMA, SEMI, QUOTING, THIN]
        asker = Asker(made(some))
        text = asker.ask()
        asker.hear(model_table(COMMA, text))
        left = asker.left()
        for answer in (None, [], model_table(COMMA, text), model_table(SEMI, text)):
            self.refuses(asker, answer)
        self.is_as(asker, left, 1)
        # A next question waits for an answer again.
        text = asker.ask()
        if text is not None:
            asker.hear(model_table(COMMA, text))
            self.assertEqual(asker.asked(), 2)
            self.refuses(asker, model_table(COMMA, text))

    def test_an_answer_behind_a_question_of_none(self):
        asker = Asker(made([COMMA]))
        self.assertIsNone(asker.ask())
        for answer in (None, [], [["a"]]):
            self.refuses(asker, answer)
        self.is_as(asker, [0], 0)
        asker = Asker(made([COMMA, SEMI]))
        asker.hear(model_table(SEMI, asker.ask()))
        self.refuses(asker)
        self.assertIsNone(asker.ask())
        self.refuses(asker)
        self.is_as(asker, [1], 1)

    def test_an_answer_that_none_would_give(self):
        asker = Asker(made([COMMA, SEMI, QUOTING]))
        self.assertIsNotNone(asker.ask())
        self.assertIsNone(asker.hear(NEVER))
        self.is_as(asker, [], 1)
        self.refuses(asker)
        for again in range(2):
            self.assertIsNone(asker.ask())
            self.refuses(asker)
        self.is_as(asker, [], 1)

    def test_failing_where_none_fails(self):
        asker = Asker(made([COMMA, SEMI]))
        text = asker.ask()
        self.assertNotIn(None, [model_table(told, text) for told in (COMMA, SEMI)])
        asker.hear(None)
        self.is_as(asker, [], 1)

    def test_12_and_13(self):
        self.is_as(Asker(made([COMMA] * 12)), list(range(12)), 0)
        for many in (13, 14, 24):
            self.assertEqual(refusal(Asker, made([COMMA] * many)), (TooMany, 12))
            self.assertEqual(refusal(Asker, made([COMMA, SEMI] * many)), (TooMany, 12))


class AskersOwn(Asking):
    def test_what_is_done_to_the_list_behind(self):
        dialects = made([COMMA, SEMI, QUOTING])
        asker = Asker(dialects)
        kept = list(dialects)
        self.assertEqual(dialects, kept)
        dialects.reverse()
        dialects.append(Dialect(":"))
        self.assertEqual(self.find_out([COMMA, SEMI, QUOTING], 1, asker), asker.asked())
        self.assertEqual(asker.left(), [1])
        dialects.clear()
        self.assertEqual(asker.left(), [1])

    def test_the_list_is_emptied_while_a_question_waits(self):
        dialects = made([COMMA, SEMI, QUOTING])
        asker = Asker(dialects)
        text = asker.ask()
        dialects.clear()
        self.assertEqual(asker.ask(), text)
        asker.hear(model_table(SEMI, text))
        self.assertIn(1, asker.left())

    def test_what_is_done_to_a_dialect_behind(self):
        dialects = made([COMMA, SEMI])
        asker = Asker(dialects)
        dialects[0].parts, dialects[1].parts = ";", ","
        self.find_out([COMMA, SEMI], 0, asker)
        self.assertEqual(asker.left(), [0])

    def test_what_is_done_to_an_answer_behind(self):
        for told in (COMMA, QUOTING, SEMI):
            some = [COMMA, QUOTING, SEMI]
            asker = Asker(made(some))
            text = asker.ask()
            while text is not None:
                answer = model_table(told, text)
                kept = copy.deepcopy(answer)
                asker.hear(answer)
                self.assertEqual(answer, kept)
                left = asker.left()
                if answer:
                    answer[0][0] = "changed"
                    answer.clear()
                self.assertEqual(asker.left(), left)
                text = asker.ask()
            self.assertEqual(asker.left(), [some.index(told)])

    def test_what_is_told(self):
        asker = Asker(made([COMMA, SEMI, QUOTING]))
        told = asker.left()
        told.clear()
        told.append(7)
        self.is_as(asker, [0, 1, 2], 0)
        first = asker.left()
        asker.ask()
        asker.hear(NEVER)
        self.assertEqual(first, [0, 1, 2])

    def test_two_askers_by_turns(self):
        some = [COMMA, SEMI, QUOTING, THIN]
        dialects = made(some)
        for hidden in range(4):
            for other in range(4):
                askers = [(Asker(dialects), hidden), (Asker(dialects), other)]
                for again in range(4):
                    for asker, place in askers:
                        text = self.asks_well(some, asker)
                        if text is not None:
                            asker.hear(model_table(some[place], text))
                self.assertEqual([asker.left() for asker, place in askers], [[hidden], [other]])

    def test_one_asks_and_the_other_waits(self):
        dialects = made([COMMA, SEMI])
        one, other = Asker(dialects), Asker(dialects)
        text = one.ask()
        self.refuses(other)
        one.hear(model_table(COMMA, text))
        self.is_as(one, [0], 1)
        self.is_as(other, [0, 1], 0)
        self.refuses(other)


if __name__ == "__main__":
    unittest.main()
