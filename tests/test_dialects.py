import unittest

from dialecthall.dialects import Dialect, dialect_of
from dialecthall.errors import NoDialect
from tests.helper import LINE, NO_SIGNS, PRINTABLE, TRUTHS, things_but_texts, things_but_truths

NAMES = ("parts", "quotes", "frees", "twin", "wide", "thin", "stray")
GOOD = (",", "'", "^", False, True, False, True)

# One for each kind of text that may be handed in, with signs in two or three of the texts among them.
DIALECTS = [
    (",", "", "", False, False, False, False),
    (",;", "',", "^", True, False, False, False),
    (",;|", "'\"", "^\\", False, True, False, False),
    ("a", "a", "a", False, False, True, False),
    (" ", "", " ", False, False, False, True),
    ("a1 ", "1a", " 1", True, True, True, True),
    ("~", "!", "~", True, True, False, False),
]


def fields_of(dialect):
    return tuple(getattr(dialect, name) for name in NAMES)


class Refusing(unittest.TestCase):
    def refused(self, made, told=None):
        with self.assertRaises(NoDialect, msg=told):
            made()

    def bad(self, name, thing):
        values = dict(zip(NAMES, GOOD))
        values[name] = thing
        self.refused(lambda: Dialect(**values), (name, repr(thing)))
        self.refused(lambda: Dialect(*values.values()), (name, repr(thing)))
        self.refused(lambda: dialect_of(tuple(values.values())), (name, repr(thing)))

    def good(self, name, thing):
        values = dict(zip(NAMES, GOOD))
        values[name] = thing
        self.assertEqual(fields_of(Dialect(**values)), tuple(values.values()))
        self.assertEqual(fields_of(dialect_of(tuple(values.values()))), tuple(values.values()))


class Fields(unittest.TestCase):
    def test_defaults(self):
        self.assertEqual(fields_of(Dialect(",")), (",", "", "", False, False, False, False))
        self.assertEqual(fields_of(Dialect(",", "'")), (",", "'", "", False, False, False, False))
        self.assertEqual(fields_of(Dialect(",", frees="^")), (",", "", "^", False, False, False, False))
        for name in NAMES[3:]:
            dialect = Dialect(",", **{name: True})
            self.assertIs(getattr(dialect, name), True)
            self.assertEqual([getattr(dialect, other) for other in NAMES[3:]].count(True), 1)

    def test_by_place_and_by_name(self):
        for told in DIALECTS:
            for truths in TRUTHS:
                seven = told[:3] + truths
                for dialect in (Dialect(*seven), Dialect(**dict(zip(NAMES, seven)))):
                    self.assertEqual(fields_of(dialect), seven)
                    for name in NAMES[3:]:
                        self.assertIsInstance(getattr(dialect, name), bool)


class Signs(Refusing):
    def test_parts(self):
        for text in (",", ",;", ",;|", "a", "ab1", " ", "' ^", "~!", ";,"):
            self.good("parts", text)
        for text in ("", ",;|a", "abcde", ",,", ",;,", ",,;", ";,,", "aaa", "a" * 3000):
            self.bad("parts", text)

    def test_quotes_and_frees(self):
        for name in ("quotes", "frees"):
            for text in ("", "'", "'\"", "\"'", "a", "a1", " ", ",^", "~ "):
                self.good(name, text)
            for text in ("''", "'\"`", "abc", "aa", "  ", "aba", "a" * 3000):
                self.bad(name, text)

    def test_every_sign(self):
        self.assertEqual(len(PRINTABLE), 94)
        for name in NAMES[:3]:
            for sign in PRINTABLE:
                self.good(name, sign)
            for sign in NO_SIGNS + LINE:
                self.bad(name, sign)
                self.bad(name, "a" + sign)
                self.bad(name, sign + "a")

    def test_named_edges(self):
        for name in NAMES[:3]:
            for number in (32, 36, 38, 126):
                self.good(name, chr(number))
            for number in (9, 10, 31, 37, 127):
                self.bad(name, chr(number))

    def test_one_sign_in_two_or_three_texts(self):
        for told in ((",", ",", ""), (",", "", ","), (",", "'", "'"), ("a", "a", "a"), (",;|", ";,", ",|"),
                     (" ", " ", " ")):
            self.assertEqual(fields_of(Dialect(*told))[:3], told)


class OtherThings(Refusing):
    def test_in_the_place_of_a_text(self):
        for name in NAMES[:3]:
            for thing in things_but_texts():
                self.bad(name, thing)

    def test_in_the_place_of_a_truth(self):
        for name in NAMES[3:]:
            for thing in things_but_truths():
                self.bad(name, thing)
            self.bad(name, 0)
            self.bad(name, 1)

    def test_in_the_place_of_the_tuple(self):
        for thing in things_but_texts() + ["", ",", "abcdefg", ",'^0000"]:
            self.refused(lambda: dialect_of(thing), repr(thing))
        self.refused(lambda: dialect_of(list(GOOD)))
        self.refused(lambda: dialect_of(dict(zip(NAMES, GOOD))))
        self.refused(lambda: dialect_of(dict(enumerate(GOOD))))
        self.refused(lambda: dialect_of((GOOD,)))
        self.refused(lambda: dialect_of(Dialect(*GOOD)))
        for many in range(7):
            self.refused(lambda: dialect_of(GOOD[:many]), many)
        self.refused(lambda: dialect_of(GOOD + (False,)))
        self.refused(lambda: dialect_of(GOOD + GOOD))
        self.refused(lambda: dialect_of(tuple(reversed(GOOD))))
        self.refused(lambda: dialect_of(GOOD[:3] + (0, 1, 0, 1)))

    def test_refused_again_and_then_made(self):
        for again in range(2):
            self.refused(lambda: Dialect(""))
            self.refused(lambda: Dialect(",", twin=1))
        self.assertEqual(Dialect(",").told(), (",", "", "", False, False, False, False))

    def test_nothing_is_changed(self):
        things = [[","], {"parts": ","}, [GOOD]]
        for thing in things:
            self.refused(lambda: Dialect(thing))
            self.refused(lambda: dialect_of(thing))
        self.assertEqual(things, [[","], {"parts": ","}, [GOOD]])


class Told(unittest.TestCase):
    def test_as_handed_in(self):
        for told in DIALECTS:
            for truths in TRUTHS:
                seven = told[:3] + truths
                answer = Dialect(*seven).told()
                self.assertIsInstance(answer, tuple)
                self.assertEqual(answer, seven)
                self.assertEqual([value.__class__ for value in answer], [str] * 3 + [bool] * 4)

    def test_the_order_of_signs_stays(self):
        self.assertEqual(Dialect(";,", "b'", "^a").told()[:3], (";,", "b'", "^a"))
        self.assertEqual(Dialect("z,a").told(), ("z,a", "", "", False, False, False, False))

    def test_made_again(self):
        for told in DIALECTS:
            for truths in TRUTHS:
                dialect = dialect_of(told[:3] + truths)
                self.assertIsInstance(dialect, Dialect)
                self.assertEqual(fields_of(dialect), told[:3] + truths)
                self.assertEqual(dialect_of(dialect.told()).told(), told[:3] + truths)

    def test_by_name(self):
        self.assertEqual(dialect_of(told=GOOD).told(), GOOD)

    def test_two_do_not_hang_together(self):
        one, other = Dialect(",", "'", "^", True), Dialect(";", stray=True)
        self.assertEqual(one.told(), (",", "'", "^", True, False, False, False))
        self.assertEqual(other.told(), (";", "", "", False, False, False, True))
        self.assertEqual(one.special(), ",'^")
        self.assertEqual(other.special(), ";")
        self.assertEqual(one.told(), (",", "'", "^", True, False, False, False))


class Special(unittest.TestCase):
    def test_the_documents_example(self):
        self.assertEqual(Dialect(",;", "',", "^").special(), ",;'^")

    def test_each_sign_once_where_it_comes_first(self):
        for told, special in (
                ((",",), ","), ((";,",), ";,"), (("z,a",), "z,a"), ((",", "'"), ",'"), ((",", "", "^"), ",^"),
                ((",", "'\"", "^\\"), ",'\"^\\"), (("a", "a", "a"), "a"), ((",", ",", ""), ","),
                ((",", "'", "'"), ",'"), ((",", "'", ","), ",'"), ((";,", ",'", "';"), ";,'"),
                (("cba", "ab", "bd"), "cbad"), ((" ", "b ", "a "), " ba"), ((",;|", "'\"", "^\\"), ",;|'\"^\\"),
                (("b", "a", "cb"), "bac")):
            special_signs = Dialect(*told).special()
            self.assertIsInstance(special_signs, str)
            self.assertEqual(special_signs, special, told)

    def test_truths_mean_nothing_to_it(self):
        for truths in TRUTHS:
            self.assertEqual(Dialect(",;", "',", "^", *truths).special(), ",;'^")

    def test_asked_again(self):
        dialect = Dialect(",;", "',", "^")
        for again in range(3):
            self.assertEqual(dialect.special(), ",;'^")
            self.assertEqual(dialect.told(), (",;", "',", "^", False, False, False, False))


if __name__ == "__main__":
    unittest.main()
