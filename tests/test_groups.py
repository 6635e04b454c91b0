import random
import unittest

from dialecthall.dialects import Dialect
from dialecthall.errors import TooMany
from dialecthall.groups import groups, telling
from dialecthall.pairs import is_parted
from dialecthall.signs import is_text
from tests.helper import (SMALL, TRUTHS, about, are_alike, lists_of_told, made, model_groups, model_table, refusal,
                          turned)

NONE = (False, False, False, False)
COMMA = (",", "", "") + NONE
QUOTING = (",", "'", "") + NONE


def untold(all_told, texts):
    """Couples of dialects that are unlike, and read all these texts alike."""
    tables = [[model_table(told, text) for text in texts] for told in all_told]
    return [(one, other) for one in range(len(all_told)) for other in range(one)
            if tables[one] == tables[other] and not are_alike(all_told[one], all_told[other])]


class Groups(unittest.TestCase):
    def test_ordinary_lists(self):
        self.assertEqual(groups(made([COMMA, QUOTING])), [[0], [1]])
        self.assertEqual(groups(made([COMMA, QUOTING, COMMA])), [[0, 2], [1]])
        self.assertEqual(groups(made([QUOTING, COMMA, COMMA, QUOTING])), [[0, 3], [1, 2]])

    def test_none_and_one(self):
        self.assertEqual(groups([]), [])
        self.assertEqual(groups(made([COMMA])), [[0]])

    def test_alike_ones_that_are_told_otherwise(self):
        self.assertEqual(groups(made([(",;", "'\"", "^\\") + NONE, (";,", "\"'", "\\^") + NONE])), [[0, 1]])
        turned_all = Dialect(",", twin=True, wide=True, stray=True)
        self.assertEqual(groups([turned_all, Dialect(",", thin=True), Dialect(",")]), [[0, 2], [1]])
        self.assertEqual(groups([Dialect(",", "", "^"), Dialect(",", "", "^", True, False, False, True),
                                 Dialect(",", "", "^", wide=True)]), [[0, 1], [2]])

    def test_all_truths(self):
        self.assertEqual(groups([Dialect(",", "", "", *truths) for truths in TRUTHS[:12]]),
                         [[0, 1, 4, 5, 8, 9], [2, 3, 6, 7, 10, 11]])

    def test_any_order(self):
        some = [COMMA, about((",;", "'", "") + NONE), (",;", "'", "") + NONE, COMMA, turned(COMMA, 3), QUOTING]
        chance = random.Random(81)
        for again in range(20):
            chance.shuffle(some)
            self.assertEqual(groups(made(some)), model_groups(some), some)

    def test_against_the_model(self):
        for some in lists_of_told(random.Random(82), 130):
            self.assertEqual(groups(made(some)), model_groups(some), some)

    def test_each_place_once(self):
        for start in range(0, len(SMALL), 12):
            found = groups(made(SMALL[start:start + 12]))
            self.assertEqual(sorted(sum(found, [])), list(range(12)))
            self.assertEqual(found, sorted(sorted(group) for group in found))

    def test_12_and_13(self):
        self.assertEqual(groups([Dialect(sign) for sign in "abcdefghijkl"]), [[place] for place in range(12)])
        self.assertEqual(groups([Dialect(",")] * 12), [list(range(12))])
        for large in ([Dialect(",")] * 13, [Dialect(sign) for sign in "abcdefghijklm"], [Dialect(",")] * 24):
            self.assertEqual(refusal(groups, large), (TooMany, 12))

    def test_the_askers_own(self):
        some = made([COMMA, QUOTING, COMMA])
        first, second = groups(some), groups(some)
        first[0].append(7)
        first.pop()
        self.assertEqual(second, [[0, 2], [1]])
        self.assertEqual(groups(some), [[0, 2], [1]])
        some.pop()
        self.assertEqual(second, [[0, 2], [1]])

    def test_what_is_handed_in_stays_and_by_name(self):
        some = made([COMMA, QUOTING, COMMA])
        kept = list(some)
        self.assertEqual(groups(dialects=some), [[0, 2], [1]])
        self.assertEqual(some, kept)
        self.assertEqual([dialect.told() for dialect in some], [COMMA, QUOTING, COMMA])


class Telling(unittest.TestCase):
    def check(self, all_told):
        texts = telling(made(all_told))
        self.assertIsInstance(texts, list)
        for text in texts:
            self.assertTrue(is_text(text), (all_told, text))
        self.assertEqual(untold(all_told, texts), [], (all_told, texts))
        for place in range(len(texts)):
            self.assertNotEqual(untold(all_told, texts[:place] + texts[place + 1:]), [], (all_told, texts, place))
        many = len(model_groups(all_told))
        self.assertLess(len(texts), max(many, 1), (all_told, texts))
        return texts

    def test_two(self):
        one, other = made([COMMA, QUOTING])
        texts = self.check([COMMA, QUOTING])
        self.assertEqual(len(texts), 1)
        self.assertIs(is_parted(one, other, texts[0]), True)

    def test_no_texts(self):
        self.assertEqual(telling([]), [])
        self.assertEqual(telling(made([COMMA])), [])
        self.assertEqual(telling(made([COMMA] * 12)), [])
        two = (",;", "", "") + NONE
        self.assertEqual(telling(made([two, about(two), turned(two, 3)])), [])

    def test_against_the_model(self):
        for some in lists_of_told(random.Random(83), 260):
            self.check(some)

    def test_one_truth_each(self):
        for start in range(0, len(SMALL), 8):
            self.check(SMALL[start:start + 8])

    def test_one_text_may_do_the_work_of_several(self):
        # A text that parts two of them may part more, so texts told for couples can come to be too many.
        for signs in ("abcdefghijkl", ",;:.-+*'#~|_"):
            texts = self.check([(sign, "", "") + NONE for sign in signs])
            self.assertLessEqual(len(texts), 11)

    def test_12_and_13(self):
        self.assertIsNone(refusal(telling, [Dialect(sign) for sign in "abcdefghijkl"]))
        for large in ([Dialect(",")] * 13, [Dialect(sign) for sign in "abcdefghijklm"], [Dialect(",")] * 24):
            self.assertEqual(refusal(telling, large), (TooMany, 12))
            self.assertEqual(refusal(telling, dialects=large), (TooMany, 12))

    def test_the_askers_own_and_what_is_handed_in_stays(self):
        some = made([COMMA, QUOTING, (";", "", "") + NONE])
        kept = list(some)
        first, second = telling(dialects=some), telling(some)
        told = list(second)
        first.clear()
        first.append("a")
        self.assertEqual(some, kept)
        self.assertEqual(second, told)
        self.assertEqual(telling(some), told)
        some.clear()
        self.assertEqual(telling(kept), told)


if __name__ == "__main__":
    unittest.main()
