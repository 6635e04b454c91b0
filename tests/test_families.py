import unittest

from dialecthall.dialects import Dialect
from dialecthall.errors import DialectError, NoFamily, TooMany
from dialecthall.families import family
from tests.helper import LINE, NO_SIGNS, TRUTHS, things_but_lists, things_but_texts, things_but_truths

NONE = (False, False, False, False)
GOOD = ([",", ";"], ["'", ""], ["", "^"], [NONE, (True, False, True, False)])

NO_PARTS = ["", ",;|^", ",,", LINE, ",\n", "%", "\t", ",%", "\x7f"] + things_but_texts()
NO_QUOTES = ["'\"^", "''", LINE, "'\n", "%", "\t", "'%", "\x7f"] + things_but_texts()
NO_TRUTHS = [(), NONE[:3], NONE + (False,), list(NONE), "0000", "", (NONE,), [NONE]] + things_but_texts() + [
    NONE[:place] + (thing,) + NONE[place + 1:] for thing in things_but_truths() for place in range(4)]


def told(dialects):
    return [dialect.told() for dialect in dialects]


class Families(unittest.TestCase):
    def test_one_dialect(self):
        dialects = family([","], [""], [""], [NONE])
        self.assertEqual(told(dialects), [(",", "", "", False, False, False, False)])
        self.assertIsInstance(dialects, list)
        self.assertIs(dialects[0].__class__, Dialect)

    def test_the_order(self):
        self.assertEqual(told(family(*GOOD)), [(parts, quotes, frees) + truths
                                               for parts in (",", ";") for quotes in ("'", "") for frees in ("", "^")
                                               for truths in GOOD[3]])
        self.assertEqual(told(family([";", ","], ["", "'"], ["^"], [NONE])),
                         [(";", "", "^") + NONE, (";", "'", "^") + NONE, (",", "", "^") + NONE, (",", "'", "^") + NONE])
        self.assertEqual(told(family([",;|", " "], ["'\""], ["^\\"], [(True, True, False, True), NONE])),
                         [(",;|", "'\"", "^\\", True, True, False, True), (",;|", "'\"", "^\\") + NONE,
                          (" ", "'\"", "^\\", True, True, False, True), (" ", "'\"", "^\\") + NONE])

    def test_all_truths(self):
        self.assertEqual(told(family([","], ["'"], [""], TRUTHS)), [(",", "'", "") + truths for truths in TRUTHS])

    def test_signs_of_several_roles_and_choices_told_twice(self):
        self.assertEqual(told(family(["a", "a"], ["a"], ["a"], [NONE])), [("a", "a", "a") + NONE] * 2)
        self.assertEqual(len(family([","] * 2, [""] * 3, [""] * 2, [NONE] * 2)), 24)

    def test_at_most_24(self):
        signs = "abcdefghijklmnopqrstuvwxyz"
        self.assertEqual(told(family(list(signs[:24]), [""], [""], [NONE])), [(sign, "", "") + NONE
                                                                              for sign in signs[:24]])
        for many in ((24, 1, 1, 1), (1, 24, 1, 1), (1, 1, 24, 1), (1, 1, 1, 24), (2, 3, 4, 1), (1, 2, 2, 6),
                     (3, 2, 2, 2)):
            self.assertEqual(len(family(*self.choices(many))), 24)
        for many in ((25, 1, 1, 1), (1, 25, 1, 1), (1, 1, 25, 1), (1, 1, 1, 25), (5, 5, 1, 1), (1, 1, 5, 5),
                     (3, 3, 3, 1), (2, 2, 2, 4), (13, 1, 2, 1), (40, 40, 40, 40)):
            self.too_many(*self.choices(many))

    def choices(self, many):
        return ([","] * many[0], ["'"] * many[1], ["^"] * many[2], [NONE] * many[3])

    def too_many(self, *lists):
        with self.assertRaises(DialectError) as caught:
            family(*lists)
        self.assertIs(caught.exception.__class__, TooMany)
        self.assertEqual(caught.exception.most, 24)

    def test_by_name(self):
        self.assertEqual(told(family(truths=[NONE], frees=["^"], quotes=["'"], parts=[","])), [(",", "'", "^") + NONE])


class Refused(unittest.TestCase):
    def refused(self, lists):
        with self.assertRaises(DialectError, msg=repr(lists)[:200]) as caught:
            family(*lists)
        self.assertIs(caught.exception.__class__, NoFamily, repr(lists)[:200])

    def with_one(self, place, thing):
        return GOOD[:place] + (thing,) + GOOD[place + 1:]

    def test_something_else_than_four_lists(self):
        for place in range(4):
            for thing in things_but_lists() + [tuple(GOOD[place]), dict.fromkeys(GOOD[place]), GOOD[place][0]]:
                self.refused(self.with_one(place, thing))

    def test_a_list_without_a_choice(self):
        for place in range(4):
            self.refused(self.with_one(place, []))
        self.refused(([], [], [], []))

    def test_wrong_choices(self):
        for place, choices in enumerate((NO_PARTS, NO_QUOTES, NO_QUOTES, NO_TRUTHS)):
            for choice in choices:
                self.refused(self.with_one(place, [choice]))
                self.refused(self.with_one(place, GOOD[place] + [choice]))
                self.refused(self.with_one(place, [choice] + GOOD[place]))

    def test_signs_that_are_none(self):
        for sign in NO_SIGNS:
            for place in range(3):
                self.refused(self.with_one(place, [",", sign]))

    def test_wrong_and_too_many_at_once(self):
        for place, choices in enumerate((NO_PARTS, NO_QUOTES, NO_QUOTES, NO_TRUTHS)):
            many = GOOD[place] * 30
            for choice in choices[:12] + choices[-4:]:
                self.refused(self.with_one(place, many + [choice]))
                self.refused(self.with_one(place, [choice] + many))
            lists = [good * 30 for good in GOOD]
            lists[place] = [None]
            self.refused(lists)
        self.refused(([","] * 99, ["'"] * 99, ["^"] * 99, []))
        self.refused(([","] * 99, ["'"] * 99, ("^",), [NONE]))

    def test_a_list_within_itself(self):
        ring = [","]
        ring.append(ring)
        for place in range(4):
            self.refused(self.with_one(place, ring))

    def test_asked_again(self):
        for again in range(2):
            self.refused(self.with_one(1, [None]))
            self.assertRaises(TooMany, family, [","] * 25, [""], [""], [NONE])
            self.assertEqual(len(family(*GOOD)), 16)


class AskersOwn(unittest.TestCase):
    def test_what_is_handed_in_stays_and_may_be_changed(self):
        lists = [[","], ["'", ""], ["^"], [NONE]]
        dialects = family(*lists)
        self.assertEqual(lists, [[","], ["'", ""], ["^"], [NONE]])
        for choices in lists:
            choices.append(None)
            choices[0] = ";"
        self.assertEqual(told(dialects), [(",", "'", "^") + NONE, (",", "", "^") + NONE])

    def test_what_is_told_is_new(self):
        first, second = family(*GOOD), family(*GOOD)
        first.pop()
        first[0] = None
        self.assertEqual(len(second), 16)
        self.assertEqual(told(second), told(family(*GOOD)))


if __name__ == "__main__":
    unittest.main()
