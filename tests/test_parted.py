import random
import unittest

from dialecthall.dialects import Dialect
from dialecthall.pairs import is_alike, is_parted
from dialecthall.parted import compare
from dialecthall.signs import is_text
from tests.helper import (LINE, ROLES, SIGNS, SMALL, TRUTHS, about, model_length, model_pairs, model_table,
                          signs_of_two, some_told, text_read_unlike, turned)

NONE = (False, False, False, False)


class Comparing(unittest.TestCase):
    def both_ways(self, one, other, most=3):
        first, second = self.check(one, other, most), self.check(other, one, most)
        self.assertEqual(first[0], second[0], (one, other))
        if first[0] == "parted":
            self.assertEqual(len(first[1]), len(second[1]), (one, other))
        return first

    def check(self, one, other, most):
        answer = compare(Dialect(*one), Dialect(*other))
        self.assertIsInstance(answer, tuple)
        self.assertEqual(len(answer), 2)
        self.assertIn(answer[0], ("alike", "parted"))
        if answer[0] == "alike":
            self.are_alike(one, other, answer[1], most)
        else:
            self.are_parted(one, other, answer[1])
        return answer

    def are_alike(self, one, other, pairs, most):
        self.assertIsInstance(pairs, list)
        self.assertEqual(len(set(pairs)), len(pairs), (one, other, pairs))
        for first, second in pairs:
            self.assertIsNotNone(model_length(one, first))
            self.assertIsNotNone(model_length(other, second))
        self.assertEqual(set(pairs), set(model_pairs(one, other)), (one, other))
        self.assertIs(is_alike(Dialect(*one), Dialect(*other), pairs), True, (one, other, pairs))
        self.assertIsNone(text_read_unlike(one, other, signs_of_two(one, other), most), (one, other))

    def are_parted(self, one, other, text):
        self.assertTrue(is_text(text), (one, other, text))
        self.assertNotEqual(model_table(one, text), model_table(other, text), (one, other, text))
        self.assertIs(is_parted(Dialect(*one), Dialect(*other), text), True)
        self.assertIsNone(text_read_unlike(one, other, signs_of_two(one, other), len(text) - 1), (one, other, text))


class Document(Comparing):
    def test_once_not_twin_and_once_twin(self):
        answer = self.both_ways((",", "'", "") + NONE, (",", "'", "", True, False, False, False))
        self.assertEqual((answer[0], len(answer[1])), ("parted", 5))
        self.assertIs(is_parted(Dialect(",", "'"), Dialect(",", "'", twin=True), "''''\n"), True)

    def test_parts_with_a_blank_and_without(self):
        answer = self.both_ways((",", "", "") + NONE, (", ", "", "") + NONE)
        self.assertEqual((answer[0], len(answer[1])), ("parted", 2))
        self.assertIs(is_parted(Dialect(","), Dialect(", "), " \n"), True)

    def test_the_order_of_signs_means_nothing(self):
        for told in SMALL + [(",;|", "'\"", "^\\") + truths for truths in TRUTHS]:
            self.assertEqual(compare(Dialect(*told), Dialect(*about(told)))[0], "alike", told)
        for parts in (",;|", ";|,", "|,;", ",|;", ";,|", "|;,"):
            self.both_ways((",;|", "'\"", "^\\") + NONE, (parts, "\"'", "\\^") + NONE, 2)

    def test_without_quotes_twin_and_stray_mean_nothing(self):
        for parts, frees in ((",", ""), (",;", "^"), (",", ","), (" ", "^ ")):
            for truths in TRUTHS:
                told = (parts, "", frees) + truths
                for place in (3, 6):
                    self.assertEqual(self.both_ways(told, turned(told, place))[0], "alike", told)

    def test_without_quotes_and_frees_wide_means_nothing(self):
        for parts in (",", ", ", "a,;"):
            for truths in TRUTHS:
                told = (parts, "", "") + truths
                self.assertEqual(self.both_ways(told, turned(told, 4))[0], "alike", told)
        self.assertEqual(self.both_ways((",", "", "^") + NONE, (",", "", "^", False, True, False, False))[0], "parted")

    def test_each_is_alike_to_itself(self):
        for told in SMALL:
            self.assertEqual(self.check(told, told, 1)[0], "alike", told)


class ManyPairs(Comparing):
    def test_each_truth_turned(self):
        for told in SMALL:
            for place in (3, 4, 5, 6):
                if told[place]:
                    self.both_ways(told, turned(told, place), 2)

    def test_signs_of_several_roles(self):
        for place, one in enumerate(ROLES):
            for other in ROLES[place + 1:]:
                truths = TRUTHS[(place * 5 + len(other[0])) % 16]
                self.both_ways(one + truths, other + truths, 2)

    def test_by_chance(self):
        chance = random.Random(41)
        for again in range(500):
            signs = chance.choice(["ab ", "ab", ",'^", ",'^ a"])
            one = some_told(chance, signs)
            other = chance.choice([some_told(chance, signs), about(turned(one, chance.randrange(3, 7)))])
            self.both_ways(one, other, 3)

    def test_signs_of_the_other_dialect_count(self):
        for one, other, length in (((",",), (",", "z"), 2), ((",",), (",", "", "z"), 2), (("a",), ("b",), 2),
                                   (("a",), ("ab",), 2), ((",", "'"), (",", "'\""), 2)):
            answer = self.both_ways(Dialect(*one).told(), Dialect(*other).told())
            self.assertEqual((answer[0], len(answer[1])), ("parted", length), (one, other))

    def test_the_shortest_of_all_signs(self):
        # Signs without a role do nothing more than the one that counts.
        for one, other in (((",", "'", "") + NONE, (",", "'", "", False, True, False, False)),
                           ((",", "'", "") + NONE, (",", "'", "", False, False, True, False)),
                           ((",", "", "^") + NONE, (",", "", "^", False, True, False, False))):
            answer = self.both_ways(one, other)
            self.assertIsNone(text_read_unlike(one, other, SIGNS, min(len(answer[1]) - 1, 2)), (one, other))

    def test_one_sign_parts_them(self):
        self.assertEqual(self.both_ways((",", "", "", False, False, True, False), (",", "", "") + NONE),
                         ("parted", " "))


class WhatFollows(Comparing):
    def test_alike_to_one_of_two_that_are_alike(self):
        chance = random.Random(42)
        for again in range(200):
            signs = chance.choice(["ab ", "ab", ",'^"])
            some = [some_told(chance, signs) for dialect in range(3)]
            one, other, third = Dialect(*some[0]), Dialect(*chance.choice([some[1], about(some[0])])), Dialect(*some[2])
            if compare(one, other)[0] == "alike":
                answers = compare(one, third), compare(other, third)
                self.assertEqual(answers[0][0], answers[1][0])
                if answers[0][0] == "parted":
                    self.assertIs(is_parted(other, third, answers[0][1]), True)
                    self.assertIs(is_parted(one, third, answers[1][1]), True)
                    self.assertEqual(len(answers[0][1]), len(answers[1][1]))

    def test_a_part_left_out_of_the_pairs_shows_nothing(self):
        for told in SMALL[::5]:
            pairs = compare(Dialect(*told), Dialect(*about(told)))[1]
            for place in range(len(pairs)):
                some = pairs[:place] + pairs[place + 1:]
                self.assertIs(is_alike(Dialect(*told), Dialect(*about(told)), some), False, (told, some))

    def test_pairs_turned_about(self):
        for told in SMALL[::5]:
            pairs = compare(Dialect(*told), Dialect(*about(told)))[1]
            self.assertIs(is_alike(Dialect(*about(told)), Dialect(*told), [pair[::-1] for pair in pairs]), True)

    def test_no_pairs_show_that_parted_ones_are_alike(self):
        chance = random.Random(43)
        for again in range(100):
            one, other = some_told(chance), some_told(chance)
            if compare(Dialect(*one), Dialect(*other))[0] == "parted":
                self.assertIs(is_alike(Dialect(*one), Dialect(*other), model_pairs(one, other)), False)


class AskersOwn(Comparing):
    def test_pairs(self):
        one, other = Dialect(",", "'"), Dialect(",", "'")
        first, second = compare(one, other), compare(one, other)
        kept = list(second[1])
        first[1].append(None)
        first[1][0] = None
        self.assertEqual(second[1], kept)
        self.assertEqual(sorted(compare(one, other)[1]), sorted(kept))

    def test_the_dialects_stay_and_by_name(self):
        one, other = Dialect(",", "'"), Dialect(",;", "'", "^", True)
        answer = compare(one=one, other=other)
        self.assertEqual(answer[0], "parted")
        self.assertEqual(compare(one, other), answer)
        self.assertEqual(one.told(), (",", "'", "") + NONE)
        self.assertEqual(other.told(), (",;", "'", "^", True, False, False, False))

    def test_line_is_a_sign_like_others(self):
        self.assertIs(is_parted(Dialect(",", "'"), Dialect(",", "'", wide=True), "'\n'" + LINE), True)


if __name__ == "__main__":
    unittest.main()
