import copy
import unittest

from dialecthall.signs import LINE, is_table, is_text, others
from tests.helper import NO_SIGNS, PRINTABLE, SIGNS, things_but_lists, things_but_texts

ORDER = "abcdefghijklmnopqrstuvwxyzABCDEFGHIJKLMNOPQRSTUVWXYZ0123456789"


class Asking(unittest.TestCase):
    def yes(self, answer, told=None):
        self.assertIs(answer, True, told)

    def no(self, answer, told=None):
        self.assertIs(answer, False, told)


class Texts(Asking):
    def test_line(self):
        self.assertEqual(LINE, "\n")
        self.yes(is_text(LINE))

    def test_ordinary_texts(self):
        for text in ("", "a", " ", "a,b\nc,d\n", "'a, b';", "\n\n\n", "~ !", "\"\\`"):
            self.yes(is_text(text), text)

    def test_every_sign_of_ascii(self):
        self.assertEqual(len(SIGNS), 95)
        for number in range(128):
            sign = chr(number)
            is_sign = number == 10 or (32 <= number <= 126 and number != 37)
            for text in (sign, "a" + sign, sign + "b", "a" + sign + "b", sign * 2, "a" * 1999 + sign):
                self.assertIs(is_text(text), is_sign, number)

    def test_named_edges(self):
        for number, is_sign in ((31, False), (32, True), (37, False), (126, True), (127, False)):
            self.assertIs(is_text(chr(number)), is_sign, number)
        self.no(is_text("a\tb"))
        self.no(is_text("a%b"))
        self.no(is_text("a\r\n"))

    def test_length(self):
        for sign in ("a", " ", LINE, "~"):
            self.yes(is_text(sign * 1999))
            self.yes(is_text(sign * 2000))
            self.no(is_text(sign * 2001))
            self.no(is_text(sign * 5000))
        self.yes(is_text((SIGNS * 22)[:2000]))
        self.no(is_text((SIGNS * 22)[:2001]))

    def test_other_things(self):
        for thing in things_but_texts():
            self.no(is_text(thing), repr(thing))

    def test_by_name(self):
        self.yes(is_text(thing="a"))
        self.no(is_text(thing=None))


class Tables(Asking):
    def test_ordinary_tables(self):
        for table in ([], [[""]], [["a"]], [["a", "b"], ["c"]], [["", ""], [""]], [[LINE]], [["a\nb", " "], ["~"]]):
            self.yes(is_table(table), table)

    def test_rows(self):
        self.yes(is_table([["a"]] * 60))
        self.no(is_table([["a"]] * 61))
        self.yes(is_table([[""] for row in range(60)]))
        self.no(is_table([[""] for row in range(61)]))

    def test_cells(self):
        self.no(is_table([[]]))
        self.no(is_table([["a"], []]))
        self.no(is_table([[], ["a"]]))
        self.yes(is_table([["a"]]))
        self.yes(is_table([["a"] * 20]))
        self.no(is_table([["a"] * 21]))
        self.yes(is_table([["a"], [""] * 20]))
        self.no(is_table([["a"], [""] * 21]))
        self.no(is_table([[""] * 21, ["a"]]))
        self.yes(is_table([[""] * 20 for row in range(60)]))

    def test_signs_in_all_cells(self):
        self.yes(is_table([["a" * 400]]))
        self.no(is_table([["a" * 401]]))
        self.yes(is_table([[LINE * 400]]))
        self.no(is_table([[LINE * 401]]))
        self.yes(is_table([["a" * 200, "b" * 200]]))
        self.no(is_table([["a" * 200, "b" * 201]]))
        self.yes(is_table([["a" * 200], ["b" * 200]]))
        self.no(is_table([["a" * 200], ["b" * 201]]))
        self.yes(is_table([["a" * 20] * 20]))
        self.no(is_table([["a" * 20] * 20, [" "]]))
        self.yes(is_table([["a" * 20] * 20, [""]]))
        self.yes(is_table([["aaaa", "bb"]] * 59 + [["", "c" * 46]]))
        self.no(is_table([["aaaa", "bb"]] * 59 + [["", "c" * 47]]))
        self.no(is_table([["a" * 2000]]))
        self.no(is_table([["a" * 2001]]))

    def test_signs_of_cells(self):
        for sign in SIGNS:
            self.yes(is_table([["a" + sign + "b"]]), sign)
        for sign in NO_SIGNS:
            self.no(is_table([[sign]]), sign)
            self.no(is_table([["a", "b"], ["c", "d" + sign]]), sign)
            self.no(is_table([["a" + sign, "b"], ["c", "d"]]), sign)

    def test_other_things(self):
        for thing in things_but_lists():
            self.no(is_table(thing), repr(thing))

    def test_other_things_as_rows(self):
        for thing in things_but_lists():
            self.no(is_table([thing]), repr(thing))
            self.no(is_table([["a"], thing]), repr(thing))
            self.no(is_table([thing, ["a"]]), repr(thing))
        self.no(is_table((["a"],)))
        self.no(is_table([("a",)]))
        self.no(is_table(["a"]))
        self.no(is_table(["ab", "cd"]))

    def test_other_things_as_cells(self):
        for thing in things_but_texts():
            self.no(is_table([[thing]]), repr(thing))
            self.no(is_table([["a", thing]]), repr(thing))
            self.no(is_table([["a"], [thing, "b"]]), repr(thing))

    def test_a_list_within_itself(self):
        ring = []
        ring.append(ring)
        self.no(is_table(ring))

    def test_nothing_is_changed(self):
        for thing in ([["a", "b"], ["", LINE]], [["a"], []], [["a" * 401]], [["a", 5]], [("a",), ["b"]]):
            before = copy.deepcopy(thing)
            first = is_table(thing)
            self.assertEqual(thing, before)
            self.assertIs(is_table(thing), first)

    def test_asked_again_behind_a_change(self):
        table = [["a"]]
        self.yes(is_table(table))
        table[0][0] = "%"
        self.no(is_table(table))
        table[0][0] = "b"
        self.yes(is_table(table))
        table.append([])
        self.no(is_table(table))

    def test_by_name(self):
        self.yes(is_table(thing=[]))


class Others(unittest.TestCase):
    def test_the_documents_example(self):
        self.assertEqual(others("cab,", 2), "de")

    def test_the_first_ones(self):
        for some in ("", ",", LINE, " ;'", "~" * 40, "0123456789", "XYZ"):
            for many in (1, 2, 3):
                self.assertEqual(others(some, many), "abc"[:many], some)

    def test_those_that_stand_in_it_are_left_out(self):
        self.assertEqual(others("a", 1), "b")
        self.assertEqual(others("b", 3), "acd")
        self.assertEqual(others("aceg", 3), "bdf")
        self.assertEqual(others("aaaa", 3), "bcd")
        self.assertEqual(others("zyx", 3), "abc")
        self.assertEqual(others("A", 2), "ab")

    def test_behind_the_small_letters(self):
        self.assertEqual(others(ORDER[:23], 3), "xyz")
        self.assertEqual(others(ORDER[:25], 3), "zAB")
        self.assertEqual(others(ORDER[:26], 3), "ABC")
        self.assertEqual(others(ORDER[:40], 3), "OPQ")
        self.assertEqual(others("".join(reversed(ORDER[:40])), 2), "OP")
        self.assertEqual(others(ORDER[:26] + "BD0", 3), "ACE")

    def test_behind_all_letters(self):
        self.assertEqual(others(ORDER[:51], 3), "Z01")
        self.assertEqual(others(ORDER[:52] + "1", 3), "023")

    def test_against_every_text_of_some_length(self):
        text = PRINTABLE + ORDER + ORDER[::3] + LINE
        for length in (0, 1, 3, 7, 20, 40):
            for start in range(len(text) - length):
                some = text[start:start + length]
                left = "".join(sign for sign in ORDER if sign not in some)
                for many in (1, 2, 3):
                    self.assertEqual(others(some, many), left[:many], some)

    def test_told_is_a_text(self):
        self.assertIsInstance(others("ab", 3), str)
        self.assertEqual(others(some="a", many=2), "bc")


if __name__ == "__main__":
    unittest.main()
