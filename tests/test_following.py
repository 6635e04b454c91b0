"""What follows of the points on reading: points 5 and 36."""

import random
import unittest

from dialecthall.dialects import Dialect, dialect_of
from dialecthall.errors import Broken
from dialecthall.reading import furthest, kinds_of, read
from tests.helper import LINE, PRINTABLE, TRUTHS, all_texts

TOLD = [(",", "'", "^"), (",", "'", "'"), (",'", "'^", ""), (", ", "'", ",")]
SHORT = all_texts(",'^ a\n", 3)


def dialects(wide=(False, True)):
    return [Dialect(*told, *truths) for told in TOLD for truths in TRUTHS if truths[1] in wide]


def outcome(dialect, text):
    """("read", table) or ("broken", row, place, word)."""
    try:
        return ("read", read(dialect, text))
    except Broken as broken:
        return ("broken", broken.row, broken.place, broken.word)


def farther(answer, rows, signs):
    return ("broken", answer[1] + rows, answer[2] + signs, answer[3])


class OneThingAlone(unittest.TestCase):
    def test_a_text_is_read_or_fails_at_one_place(self):
        for dialect in dialects():
            for text in SHORT:
                answer = outcome(dialect, text)
                self.assertEqual(outcome(dialect, text), answer)
                self.assertEqual(furthest(dialect, text) is None, answer[0] == "read")
                if answer[0] == "broken":
                    self.assertLessEqual(answer[2], len(text))
                    self.assertEqual(answer[2] == len(text), answer[3] == "cut")

    def test_dialects_told_by_the_same_tuple_read_alike(self):
        for dialect in dialects():
            other = dialect_of(dialect.told())
            for text in all_texts(",'^ a\n", 2):
                self.assertEqual(outcome(dialect, text), outcome(other, text))


class WhatFails(unittest.TestCase):
    def test_fails_there_whatever_is_put_behind(self):
        for dialect in dialects():
            failing = [text for text in SHORT if outcome(dialect, text)[-1] in ("quote", "line", "behind")]
            for place, text in enumerate(failing):
                for more in ("a", LINE, "'", ",", " ", "'\n", "a,b\nc\n", SHORT[place % len(SHORT)], "'" * 9):
                    self.assertEqual(outcome(dialect, text + more), outcome(dialect, text), (dialect.told(), text))
                    self.assertEqual(kinds_of(dialect, text + more), kinds_of(dialect, text))

    def test_up_to_2000_signs(self):
        dialect = Dialect(",", "'")
        for text, answer in (("a\nb'", ("broken", 1, 3, "quote")), ("'\n", ("broken", 0, 1, "line")),
                             ("\n''a", ("broken", 1, 3, "behind"))):
            for sign in ("a", LINE, "'", ","):
                self.assertEqual(outcome(dialect, text + sign * (2000 - len(text))), answer)

    def test_what_is_cut_may_be_read_with_more(self):
        dialect = Dialect(",", "'")
        self.assertEqual(outcome(dialect, "'a"), ("broken", 0, 2, "cut"))
        self.assertEqual(outcome(dialect, "'a'\n"), ("read", [["a"]]))


class OneBehindTheOther(unittest.TestCase):
    def both(self, dialect, one, other):
        first, second, answer = outcome(dialect, one), outcome(dialect, other), outcome(dialect, one + other)
        if second[0] == "read":
            self.assertEqual(answer, ("read", first[1] + second[1]), (dialect.told(), one, other))
        else:
            self.assertEqual(answer, farther(second, len(first[1]), len(one)), (dialect.told(), one, other))

    def test_ordinary_texts(self):
        dialect = Dialect(",", "'")
        self.both(dialect, "a,b\n", "c\n'd'\n")
        self.both(dialect, "", "c\n")
        self.both(dialect, "c\n", "")
        self.assertEqual(outcome(dialect, "a\nb\n" + "c\nd'\n"), ("broken", 3, 7, "quote"))
        self.assertEqual(outcome(dialect, "a\nb\n" + "c\n'd"), ("broken", 3, 8, "cut"))

    def test_every_short_text(self):
        for dialect in dialects():
            ahead = [text for text in SHORT if outcome(dialect, text)[0] == "read"]
            for place, one in enumerate(ahead):
                for other in SHORT[place % 5::5]:
                    self.both(dialect, one, other)

    def test_together_2000_signs(self):
        dialect = Dialect(",", "'")
        self.both(dialect, "a,b\n" * 250, "c\nd,\n" * 200)
        self.both(dialect, "a,b\n" * 250, "c\nd,\n" * 199 + "c\nd''")
        self.both(dialect, LINE * 1999, "'")


class Pieces(unittest.TestCase):
    def check(self, dialect, text):
        pieces = text.split(LINE)
        pieces = [piece + LINE for piece in pieces[:-1]] + pieces[-1:]
        answers = [outcome(dialect, piece) for piece in pieces]
        whole = outcome(dialect, text)
        self.assertEqual(whole[0] == "read", all(answer[0] == "read" for answer in answers), (dialect.told(), text))
        if whole[0] == "read":
            self.assertEqual(whole[1], sum([answer[1] for answer in answers], []))

    def test_every_short_text(self):
        for dialect in dialects(wide=(False,)):
            for text in all_texts(",'^ \n", 4):
                self.check(dialect, text)

    def test_longer_texts(self):
        chance = random.Random(3)
        rows = ["a,b", "'a,b'", "^,", "'it^'s',", "", "'a''b'", " a", "'a' ", "b'", "^", "'"]
        for dialect in dialects(wide=(False,)):
            for again in range(20):
                text = LINE.join(chance.choice(rows) for row in range(chance.randrange(1, 9)))
                self.check(dialect, text)
                self.check(dialect, text + LINE)

    def test_by_a_wide_dialect_it_is_not_so(self):
        dialect = Dialect(",", "'", wide=True)
        self.assertEqual(outcome(dialect, "'a\nb'\n"), ("read", [["a\nb"]]))
        self.assertEqual(outcome(dialect, "'a\n"), ("broken", 0, 3, "cut"))


class Exchanged(unittest.TestCase):
    def check(self, dialect, text, exchange):
        def other(some):
            return "".join(exchange.get(sign, sign) for sign in some)
        told = dialect.told()
        exchanged = Dialect(other(told[0]), other(told[1]), other(told[2]), *told[3:])
        answer = outcome(dialect, text)
        if answer[0] == "read":
            answer = ("read", [[other(cell) for cell in row] for row in answer[1]])
        self.assertEqual(outcome(exchanged, other(text)), answer, (told, text, exchanged.told()))
        self.assertEqual(kinds_of(exchanged, other(text)), kinds_of(dialect, text))

    def test_short_texts(self):
        signs = PRINTABLE.replace(" ", "")
        chance = random.Random(5)
        for dialect in dialects():
            order = list(signs)
            chance.shuffle(order)
            exchange = dict(zip(signs, order))
            for text in SHORT:
                self.check(dialect, text, exchange)

    def test_every_sign_takes_every_role(self):
        signs = PRINTABLE.replace(" ", "")
        for shift in range(len(signs)):
            exchange = dict(zip(signs, signs[shift:] + signs[:shift]))
            for dialect in (Dialect(",;", "'\"", "^", True), Dialect(",", "'", "^", False, True, True, True)):
                for text in ("a,b;c\n", "'a''b',\"c\"\n", "^,^'a,b'\n", " 'a' , b\n", "'a\nb'\n", "'a'b\n", "^"):
                    self.check(dialect, text, exchange)


if __name__ == "__main__":
    unittest.main()
