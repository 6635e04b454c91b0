import copy
import random
import unittest

from dialecthall.dialects import Dialect
from dialecthall.errors import NoMost, NoTable, TooMany
from dialecthall.papers import is_none, is_sole
from dialecthall.reading import furthest, read
from dialecthall.sole import sole
from dialecthall.writing import shortest
from tests.helper import (LINE, ROLES, SIGNS, SMALL, TRUTHS, about, made, model_good, model_leads, model_sole,
                          model_table, model_writing, refusal, signs_of_sole, sole_text, some_told, things_but_tables,
                          things_but_texts, turned)

NONE = (False, False, False, False)
ROW = ("row", "")
PLAIN = Dialect(",")
SEMI = Dialect(";")
QUOTING = Dialect(",", "'")
THIN = Dialect(",", thin=True)

# Of this table more than 4000 places come ahead of a sole text (and in all, where the dialect itself is another one).
LARGE = ("'", "'x", "^a", True, True, True, False)
OF_LARGE = [("'", "x^", "^'", True, True, False, False), ("^", "'a", "^x", True, True, True, True),
            ("'", "x'", "^'", True, True, True, True)]


def small_tables(told):
    """Tables with the signs of a dialect, a blank and LINE in their cells."""
    part, sign = told[0][0], (told[1] + told[2] + "b")[0]
    return [[], [[""]], [["a"]], [[sign]], [["", ""]], [["a", part]], [[" "]], [["b" + sign]], [[LINE]], [[" a"], [""]]]


class Sole(unittest.TestCase):
    def told_answer(self, told, table, others, most):
        answer = sole(Dialect(*told), table, made(others), most)
        self.assertIsInstance(answer, tuple)
        self.assertIn(answer[:1] + (len(answer),), (("open", 1), ("text", 2), ("none", 2)))
        return answer

    def is_open(self, told, table, others, most):
        if most > 0:
            self.assertEqual(self.told_answer(told, table, others, most), ("open",), (told, table, others, most))

    def is_right_text(self, told, table, others, text, length):
        self.assertIsInstance(text, str)
        self.assertEqual(len(text), length, (told, table, others, text))
        self.assertEqual(read(Dialect(*told), text), table, (told, others, text))
        self.assertEqual(model_table(told, text), table, (told, others, text))
        for other in others:
            self.assertTrue(furthest(Dialect(*other), text) is not None or read(Dialect(*other), text) != table)
            self.assertNotEqual(model_table(other, text), table, (told, other, text))
        self.assertIs(is_sole(Dialect(*told), table, made(others), text), True)

    def is_right_list(self, told, table, others, places, wanted):
        self.assertIsInstance(places, list)
        self.assertEqual(len(set(places)), len(places), (told, table, others))
        self.assertIn((ROW, 0, ((ROW, 0),) * len(others)), places)
        self.assertEqual(set(places), set(wanted), (told, table, others))
        self.assertIs(is_none(Dialect(*told), table, made(others), places), True, (told, table, others))

    def check(self, told, table, others):
        """The answer with the largest most, with the least one that is enough, and with one less than that."""
        length, places = model_sole(told, table, others)
        enough = max(len(places), 1)
        if enough > 4000:
            self.is_open(told, table, others, 4000)
            return "open"
        for most in (4000, enough):
            answer = self.told_answer(told, table, others, most)
            if length is None:
                self.assertEqual(answer[0], "none", (told, table, others, most))
                self.is_right_list(told, table, others, answer[1], places)
            else:
                self.assertEqual(answer[0], "text", (told, table, others, most))
                self.is_right_text(told, table, others, answer[1], length)
        self.is_open(told, table, others, enough - 1)
        self.is_open(told, table, others, enough // 2)
        if enough > 1:
            self.is_open(told, table, others, 1)
        self.without_shorter(told, table, others, length)
        return answer[0]

    def without_shorter(self, told, table, others, length):
        """No shorter text of the signs that count is sole; where none is told, none of six signs or fewer."""
        most = 6 if length is None else min(length - 1, 8)
        if most >= 0:
            found = sole_text(told, table, others, signs_of_sole(told, table, others), most)
            self.assertIsNone(found, (told, table, others))


class Ordinary(Sole):
    def test_one_other(self):
        self.assertEqual(sole(PLAIN, [["a", "b"]], [SEMI], 4000), ("text", "a,b\n"))
        self.assertEqual(sole(QUOTING, [["a"]], [PLAIN], 4000), ("text", "'a'\n"))
        self.assertEqual(sole(Dialect(",;"), [["", ""]], [PLAIN], 4000), ("text", ";\n"))
        self.assertEqual(sole(Dialect(",", "", "^"), [["a"]], [PLAIN], 4000), ("text", "^a\n"))
        self.assertEqual(sole(THIN, [["a"]], [PLAIN], 4000), ("text", " a\n"))

    def test_the_table_without_rows(self):
        self.assertEqual(sole(THIN, [], [PLAIN], 4000), ("text", " "))
        self.assertEqual(sole(THIN, [], [], 1), ("text", ""))
        self.assertEqual(sole(PLAIN, [], [SEMI], 1), ("none", [(ROW, 0, ((ROW, 0),))]))
        self.assertEqual(sole(THIN, [], [PLAIN, Dialect(",", "", " ")], 4000), ("text", " "))

    def test_none(self):
        answer = sole(PLAIN, [["a"]], [SEMI], 4000)
        self.assertEqual(answer[0], "none")
        self.assertEqual(sorted(answer[1]), sorted([(ROW, 0, ((ROW, 0),)), (("plain", ""), 1, ((("plain", ""), 1),)),
                                                    (ROW, 2, ((ROW, 2),))]))

    def test_open(self):
        self.assertEqual(sole(PLAIN, [["a"]], [SEMI], 3)[0], "none")
        self.assertEqual(sole(PLAIN, [["a"]], [SEMI], 2), ("open",))
        self.assertEqual(sole(PLAIN, [["a"]], [SEMI], 1), ("open",))
        self.assertEqual(sole(THIN, [["a"]], [PLAIN], 1), ("open",))

    def test_two_and_three_others(self):
        self.assertEqual(sole(PLAIN, [["a", "b"]], [SEMI, Dialect(",", "a")], 4000), ("text", "a,b\n"))
        others = [(",", "", "") + NONE, (",", "'", "", True, True, False, False), (",", "'", "") + NONE]
        told = (",", "'", "", False, False, True, False)
        self.assertEqual(self.check(told, [["a"]], others), "text")
        self.assertEqual(self.check(others[0], [["a"]], others[1:] + [told]), "none")
        self.assertEqual(self.check(others[0], [[" a"]], others[1:] + [told]), "none")
        self.assertEqual(self.check(others[0], [["a", "'"]], others[1:] + [told]), "text")

    def test_each_other_has_to_be_put_off(self):
        # One text would put off each of the others by itself, a longer one both.
        told = (",", "'", "", False, False, True, False)
        blank, quote = (",", "'", "") + NONE, (",", "", "", False, False, True, False)
        self.assertEqual(len(sole(Dialect(*told), [["a"]], made([blank]), 4000)[1]), 3)
        self.assertEqual(len(sole(Dialect(*told), [["a"]], made([quote]), 4000)[1]), 4)
        self.assertEqual(len(sole(Dialect(*told), [["a"]], made([blank, quote]), 4000)[1]), 5)
        self.check(told, [["a"]], [blank, quote])

    def test_one_that_is_alike(self):
        for told in SMALL[::5]:
            for table in ([], [[""]], [["a", ","]]):
                self.assertEqual(self.check(told, table, [told]), "none")
                self.assertEqual(self.check(told, table, [about(told)]), "none")
                self.assertEqual(self.check(told, table, [turned(told, 5), about(told)]), "none")

    def test_others_told_twice(self):
        for told in SMALL[::17]:
            other = turned(turned(told, 3), 5)
            for table in ([["a"]], [["'", "a"]]):
                once, twice = [model_sole(told, table, others)[0] for others in ([other], [other, other, other])]
                self.assertEqual(once, twice)
                self.check(told, table, [other, other])
                self.check(told, table, [other, other, other])

    def test_no_others(self):
        for told in SMALL:
            for table in small_tables(told):
                answer = sole(Dialect(*told), table, [], 4000)
                writing = model_writing(told, table)
                if writing[0] == "none":
                    self.assertEqual(answer[0], "none", (told, table))
                else:
                    self.assertEqual((answer[0], len(answer[1])), writing, (told, table))
                    self.assertEqual(len(answer[1]), len(shortest(Dialect(*told), table)))
                    self.assertEqual(model_table(told, answer[1]), table)


class AgainstTheModel(Sole):
    def test_each_truth_turned(self):
        for told in SMALL:
            for table in small_tables(told):
                for place in (3, 4, 5, 6):
                    self.check(told, table, [turned(told, place)])

    def test_one_to_three_others(self):
        for number, told in enumerate(SMALL):
            tables = small_tables(told)
            others = [turned(told, 3 + number % 4), SMALL[(number * 31) % len(SMALL)]]
            others.append(turned(told, 3 + number // 4 % 4))
            self.check(told, tables[number % len(tables)], others[:1 + number % 3])

    def test_signs_of_several_roles(self):
        for number, told in enumerate(ROLES):
            for behind, other in enumerate(ROLES):
                truths = TRUTHS[(number * 5 + behind) % 16]
                tables = small_tables(told)
                self.check(told + truths, tables[(number + behind) % len(tables)], [other + truths])

    def test_by_chance(self):
        chance = random.Random(71)
        found = []
        for again in range(1500):
            signs = chance.choice(["ab ", "ab", ",'^", ",'^ a"])
            told = some_told(chance, signs)
            others = [chance.choice([some_told(chance, signs), turned(told, chance.randrange(3, 7))])
                      for other in range(chance.randrange(4))]
            table = [["".join(chance.choices(signs, k=chance.randrange(3))) for cell in range(chance.randint(1, 2))]
                     for row in range(chance.randrange(3))]
            found.append(self.check(told, table, others))
        self.assertEqual(sorted(set(found)), ["none", "text"])

    def test_signs_of_the_others_and_of_the_table_count(self):
        # The quote of the other one, which the dialect only puts, or frees.
        self.assertEqual(self.check((",", "", "") + NONE, [["z"]], [(",", "z", "") + NONE]), "text")
        self.assertEqual(self.check((",", "", "^") + NONE, [["z"]], [(",", "z", "") + NONE]), "text")
        self.assertEqual(self.check((",", "", "^") + NONE, [["z"]], [(",", "", "^z") + NONE]), "text")

    def test_the_shortest_of_all_signs(self):
        for told, table, others in (((",", "'", "") + NONE, [["a"]], [(",", "", "") + NONE]),
                                    ((",", "", "^") + NONE, [["a"]], [(",", "", "") + NONE]),
                                    ((",", "'", "") + NONE, [[""]], [(",", "'", "", True, False, False, False)])):
            length = model_sole(told, table, others)[0]
            self.assertIsNone(sole_text(told, table, others, SIGNS, 2), (told, table, others))
            self.assertTrue(length is None or length > 2)
            self.check(told, table, others)

    def test_places_of_many_tokens(self):
        self.check((",", "'", "", True, True, False, False), [["it's", "a,b", ""], ["c\nd", " e "]],
                   [(",", "'", "") + NONE, (",;", "'", "^", True, True, True, True)])
        self.check(LARGE, [["a" * 9]], OF_LARGE)
        self.check(LARGE, [["a" * 9]], OF_LARGE[:2] + [LARGE])


class Large(Sole):
    def test_open_with_the_largest_most(self):
        table = [["a" * 23]]
        length, places = model_sole(LARGE, table, OF_LARGE)
        self.assertIsNotNone(length)
        self.assertGreater(len(places), 4000)
        self.is_open(LARGE, table, OF_LARGE, 4000)

    def test_open_where_there_is_none(self):
        table = [["a" * 23]]
        length, places = model_sole(LARGE, table, OF_LARGE[:2] + [LARGE])
        self.assertIsNone(length)
        self.assertGreater(len(places), 4000)
        self.is_open(LARGE, table, OF_LARGE[:2] + [LARGE], 4000)

    def test_about_4000_places(self):
        for many in (18, 19):
            self.check(LARGE, [["a" * many]], OF_LARGE)
        self.check(LARGE, [["a" * 21]], OF_LARGE[:2] + [LARGE])

    def test_never_open_with_the_product_of_point_74(self):
        for told, other in (((",", "", "") + NONE, (",", "", "^") + NONE),
                            ((",", "'", "^") + NONE, (";", "'", "") + NONE),
                            (("'", "'", "'") + NONE, (",", "", "'", False, True, True, False))):
            for table in ([], [[""]], [["a'"]], [["", "b"]]):
                tokens = sum(len(row) + sum(len(cell) for cell in row) for row in table)
                most = (5 + 3 * len(told[1])) * (tokens + 1) * ((5 + 3 * len(other[1])) * (tokens + 1) + 1)
                self.assertLessEqual(most, 4000)
                self.assertNotEqual(sole(Dialect(*told), table, [Dialect(*other)], most)[0], "open")


class Refused(Sole):
    def test_what_is_no_table(self):
        for thing in things_but_tables():
            self.assertEqual(refusal(sole, PLAIN, thing, [SEMI], 10), (NoTable,), repr(thing)[:200])

    def test_24_and_25_tokens(self):
        for good in ([["a" * 23]], [[""] * 12, [""] * 12], [[""]] * 24, [["a" * 22, ""]], [["a"]] * 12):
            self.assertIsNone(refusal(sole, PLAIN, good, [], 4000), good)
        for large in ([["a" * 24]], [[""] * 12, [""] * 13], [[""]] * 25, [["a" * 23, ""]], [["a"]] * 12 + [[""]],
                      [["a" * 400]], [[""] * 20] * 60):
            self.assertEqual(refusal(sole, PLAIN, large, [], 4000), (TooMany, 24), large)

    def test_three_and_four_others(self):
        self.assertIsNone(refusal(sole, PLAIN, [["a"]], [SEMI] * 3, 4000))
        self.assertEqual(refusal(sole, PLAIN, [["a"]], [SEMI] * 4, 4000), (TooMany, 3))
        self.assertEqual(refusal(sole, PLAIN, [["a"]], [SEMI] * 12, 4000), (TooMany, 3))
        self.assertEqual(refusal(sole, PLAIN, [["a"]], [PLAIN, SEMI, QUOTING, THIN], 4000), (TooMany, 3))

    def test_most(self):
        for good in (1, 2, 3999, 4000):
            self.assertIsNone(refusal(sole, PLAIN, [["a"]], [SEMI], good), good)
        for thing in [0, -1, -4000, 4001, 5000, 2 ** 70, -2 ** 70, True, False, None, "", "1", "100", 1.0, 100.5,
                      [1], (1,), {1: 1}] + [thing for thing in things_but_texts() if thing not in (1, 44)]:
            self.assertEqual(refusal(sole, PLAIN, [["a"]], [SEMI], thing), (NoMost,), repr(thing))

    def test_the_order(self):
        for others in ([], [SEMI] * 3, [SEMI] * 4):
            for most in (0, 4001, True, None, "1", 100):
                self.assertEqual(refusal(sole, PLAIN, [[]], others, most), (NoTable,))
                self.assertEqual(refusal(sole, PLAIN, None, others, most), (NoTable,))
                self.assertEqual(refusal(sole, PLAIN, [["a" * 401]], others, most), (NoTable,))
                self.assertEqual(refusal(sole, PLAIN, [["a" * 24]], others, most), (TooMany, 24))
        for most in (0, 4001, True, None, "1", 100):
            self.assertEqual(refusal(sole, PLAIN, [["a" * 23]], [SEMI] * 4, most), (TooMany, 3))
        self.assertEqual(refusal(sole, PLAIN, [["a" * 23]], [SEMI] * 3, 0), (NoMost,))

    def test_nothing_is_changed_and_it_may_be_asked_again(self):
        before = sole(QUOTING, [["a"]], [PLAIN], 4000)
        for handed in (([[]], [PLAIN], 1), ([["a" * 24]], [PLAIN], 1),
                       ([["a"]], [PLAIN] * 4, 1), ([["a"]], [PLAIN], 0)):
            self.assertEqual(refusal(sole, QUOTING, *handed), refusal(sole, QUOTING, *handed))
            self.assertIsNotNone(refusal(sole, QUOTING, *handed))
            self.assertEqual(sole(QUOTING, [["a"]], [PLAIN], 4000), before)


class AskersOwn(Sole):
    def test_places(self):
        first, second = sole(PLAIN, [["a"]], [SEMI], 4000), sole(PLAIN, [["a"]], [SEMI], 4000)
        kept = list(second[1])
        first[1].clear()
        first[1].append(None)
        self.assertEqual(second[1], kept)
        self.assertEqual(sorted(sole(PLAIN, [["a"]], [SEMI], 4000)[1]), sorted(kept))

    def test_what_is_handed_in_stays(self):
        table, others = [["a", "'"], [""]], [SEMI, QUOTING]
        before = copy.deepcopy(table)
        answer = sole(PLAIN, table, others, 4000)
        self.assertEqual(table, before)
        self.assertEqual(others, [SEMI, QUOTING])
        self.assertEqual([dialect.told() for dialect in (PLAIN, SEMI, QUOTING)],
                         [(",", "", "") + NONE, (";", "", "") + NONE, (",", "'", "") + NONE])
        kept = copy.deepcopy(answer)
        table[0][0] = "b"
        table.pop()
        others.clear()
        self.assertEqual(answer, kept)
        self.assertEqual(sole(PLAIN, before, [SEMI, QUOTING], 4000), kept)

    def test_by_name(self):
        self.assertEqual(sole(most=4000, others=[PLAIN], table=[["a"]], dialect=QUOTING), ("text", "'a'\n"))

    def test_the_model_agrees_with_itself(self):
        length, places = model_sole((",", "", "") + NONE, [["a"]], [(";", "", "") + NONE])
        self.assertEqual((length, len(places)), (None, 3))
        for place in places:
            self.assertFalse(model_good([["a"]], place))
            for lead in model_leads((",", "", "") + NONE, [["a"]], [(";", "", "") + NONE], place):
                self.assertIn(lead, places)


if __name__ == "__main__":
    unittest.main()
