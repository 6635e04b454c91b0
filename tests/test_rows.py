import copy
import random
import unittest

from dialecthall.dialects import Dialect
from dialecthall.errors import NoName, NoRow, NoTable
from dialecthall.reading import read
from dialecthall.rows import dialect_in, house, house_table, house_text, is_name, row_of
from dialecthall.signs import is_text
from tests.helper import (LINE, NO_SIGNS, PRINTABLE, SIGNS, SMALL, Anything, all_texts, model_table, refusal, some_told,
                          things_but_tables, things_but_texts)

NONE = (False, False, False, False)
HOUSE = (",", "\"", "", True, True, False, False)
NO_NAMES = ["", "A", "aB", "abcdefghi", "a1", "1", "a b", " ", "a ", " a", "-", "a-b", "a_b", "a\n", "\n", "\u00e4",
            "\u00df", "a\u00e9", "\u0430", "dialecthall", "NAME", "Name", "a,", "{", "`", "@", "Z", "[", "a" * 2001]
GOOD = "dialect house 44 34 - 1100"


def word_of(signs):
    """A sign is told by its number (91)."""
    return "+".join(str(ord(sign)) for sign in signs) or "-"


def model_row(name, told):
    return " ".join(["dialect", name] + [word_of(signs) for signs in told[:3]]
                    + ["".join(str(int(truth)) for truth in told[3:])])


def model_house_cell(cell):
    if "," in cell or "\"" in cell or LINE in cell:
        return "\"" + "".join(sign * 2 if sign == "\"" else sign for sign in cell) + "\""
    return cell


def model_house_text(table):
    return "".join(",".join(model_house_cell(cell) for cell in row) + LINE for row in table)


def tables_by_chance(chance, many):
    for again in range(many):
        signs = chance.choice(["a,\"", ",\"\n ", "ab", SIGNS])
        yield [["".join(chance.choices(signs, k=chance.randrange(5))) for cell in range(chance.randint(1, 4))]
               for row in range(chance.randrange(5))]


class IsName(unittest.TestCase):
    def test_names(self):
        for name in ["a", "z", "house", "abcdefgh", "dialect", "names", "zzzzzzzz", "none"] + list(
                "abcdefghijklmnopqrstuvwxyz"):
            self.assertIs(is_name(name), True, name)

    def test_whatever_is_none(self):
        for thing in NO_NAMES + things_but_texts() + [Anything(), ["a"], ("a",), {"a": 1}, b"a"]:
            self.assertIs(is_name(thing), False, repr(thing))

    def test_each_sign(self):
        for number in range(256):
            self.assertIs(is_name(chr(number)), 97 <= number <= 122, number)
            self.assertIs(is_name("a" + chr(number) + "b"), 97 <= number <= 122, number)

    def test_one_to_eight_letters(self):
        self.assertEqual([is_name("a" * many) for many in range(11)], [False] + [True] * 8 + [False] * 2)

    def test_by_name(self):
        self.assertIs(is_name(thing="a"), True)


class RowOf(unittest.TestCase):
    def test_ordinary_rows(self):
        self.assertEqual(row_of("house", house()), GOOD)
        self.assertEqual(row_of("a", Dialect(",")), "dialect a 44 - - 0000")
        self.assertEqual(row_of("b", Dialect(",; ", "'\"", "^\\", False, True, True, False)),
                         "dialect b 44+59+32 39+34 94+92 0110")
        self.assertEqual(row_of("c", Dialect("~", "", "a", stray=True)), "dialect c 126 - 97 0001")

    def test_signs_in_the_order_told(self):
        self.assertEqual(row_of("a", Dialect(";,", "\"'")), "dialect a 59+44 34+39 - 0000")
        self.assertEqual(row_of("a", Dialect("-+", "-", "+")), "dialect a 45+43 45 43 0000")

    def test_by_name_and_the_dialect_stays(self):
        dialect = Dialect(",", "'")
        self.assertEqual(row_of(name="a", dialect=dialect), "dialect a 44 39 - 0000")
        self.assertEqual(dialect.told(), (",", "'", "") + NONE)

    def test_no_name(self):
        for thing in NO_NAMES + things_but_texts() + [Anything()]:
            with self.assertRaises(ValueError) as caught:
                row_of(thing, Dialect(","))
            self.assertIs(caught.exception.__class__, NoName)
            self.assertIs(caught.exception.name, thing)

    def test_the_field_is_the_thing_itself_whatever_is_done_to_it(self):
        thing = ["a", ["b"]]
        with self.assertRaises(NoName) as caught:
            row_of(thing, Dialect(","))
        self.assertEqual(thing, ["a", ["b"]])
        thing.append("c")
        thing[1].clear()
        self.assertIs(caught.exception.name, thing)
        self.assertEqual(caught.exception.name, ["a", [], "c"])


class DialectIn(unittest.TestCase):
    def is_read(self, row, name, told):
        answer = dialect_in(row)
        self.assertIsInstance(answer, tuple)
        self.assertEqual((len(answer), answer[0]), (2, name))
        self.assertIs(answer[1].__class__, Dialect)
        self.assertEqual(answer[1].told(), told)
        self.assertEqual([truth.__class__ for truth in answer[1].told()[3:]], [bool] * 4)

    def no(self, row):
        self.assertEqual(refusal(dialect_in, row), (NoRow,), repr(row)[:200])

    def test_the_house(self):
        self.is_read(GOOD, "house", HOUSE)

    def test_all_of_many_told_and_read_again(self):
        chance = random.Random(91)
        for told in SMALL + [some_told(chance, PRINTABLE) for again in range(300)]:
            name = "".join(chance.choices("abcdefghijklmnopqrstuvwxyz", k=chance.randint(1, 8)))
            row = row_of(name, Dialect(*told))
            self.assertEqual(row, model_row(name, told))
            self.assertTrue(is_text(row))
            self.is_read(row, name, told)

    def test_each_sign(self):
        for sign in PRINTABLE:
            other = "," if sign != "," else ";"
            for told in ((sign, "", ""), (other + sign, sign, sign), (other, other + sign, sign + other)):
                row = row_of("a", Dialect(*told))
                self.assertEqual(row, model_row("a", told + NONE))
                self.is_read(row, "a", told + NONE)

    def test_each_number(self):
        for number in range(-3, 200):
            row = f"dialect a {number} - - 0000"
            if 32 <= number <= 126 and number != 37:
                self.is_read(row, "a", (chr(number), "", "") + NONE)
                self.is_read(f"dialect a 44 {number} {number} 0000", "a", (",", chr(number), chr(number)) + NONE)
            else:
                self.no(row)
                self.no(f"dialect a 44 {number} - 0000")
                self.no(f"dialect a 44 - {number} 0000")

    def test_numbers_that_are_none(self):
        for word in ("044", "0044", "00044", "+44", "44+", "44++59", "+", "-44", "44-", "--", "44,59", "44.0", "4 4",
                     "0x2c", "a", "44a", "a44", "", "1e2", "4_4", "44+-", "-+44", "44+059", "44+10", "37", "44+37",
                     "31", "127", "10", "0", "9", "1000", "44+44", "44+59+44", "44+59+58+46", "\uff14\uff14", "\u0664",
                     "44\t", "\t44", "44\n", "\n44", "9" * 5000):
            self.no(f"dialect a {word} - - 0000")
            self.no(f"dialect a 44 {word} - 0000")
            self.no(f"dialect a 44 - {word} 0000")

    def test_how_many_signs(self):
        self.is_read("dialect a 44+59+58 44+59 44+59 0000", "a", (",;:", ",;", ",;") + NONE)
        self.no("dialect a - - - 0000")
        self.no("dialect a - 34 - 1100")
        self.no("dialect a 44+59+58+46 - - 0000")
        self.no("dialect a 44 44+59+58 - 0000")
        self.no("dialect a 44 - 44+59+58 0000")

    def test_figures(self):
        for number in range(16):
            figures = f"{number:04b}"
            truths = tuple(figure == "1" for figure in figures)
            self.is_read(f"dialect a 44 34 - {figures}", "a", (",", "\"", "") + truths)
            for place in range(4):
                for figure in ("2", "9", "-", "+", "a", "", "00", "11", "I", " ", LINE, "\u0661"):
                    self.no(f"dialect a 44 34 - {figures[:place] + figure + figures[place + 1:]}")
        for word in ("", "0", "000", "00000", "-", "True", "1100 ", "1100\n", "11001100", "+110", "0b11"):
            self.no(f"dialect a 44 34 - {word}")

    def test_blanks(self):
        words = GOOD.split(" ")
        for place in range(1, 6):
            self.no(" ".join(words[:place]) + "  " + " ".join(words[place:]))
            self.no(" ".join(words[:place]) + " ".join(words[place:]))
            self.no(" ".join(words[:place]) + "\t" + " ".join(words[place:]))
            self.no(" ".join(words[:place]) + LINE + " ".join(words[place:]))
        for row in (" " + GOOD, GOOD + " ", "  " + GOOD, GOOD + "  ", LINE + GOOD, GOOD + LINE, "\t" + GOOD):
            self.no(row)

    def test_how_many_words(self):
        words = GOOD.split(" ")
        for place in range(6):
            self.no(" ".join(words[:place] + words[place + 1:]))
            self.no(" ".join(words[:place] + [words[place]] + words[place:]))
            self.no(" ".join(words[:place]))
        for row in ("", " ", "     ", GOOD + " 0", GOOD + " " + GOOD, GOOD + LINE + GOOD, "dialect", "house"):
            self.no(row)

    def test_the_first_word_and_the_name(self):
        for word in ("", "Dialect", "DIALECT", "dialects", "ialect", "row", "house"):
            self.no(word + GOOD[7:])
        for name in NO_NAMES:
            self.no(f"dialect {name} 44 34 - 1100")
        for name in ("a", "abcdefgh", "dialect"):
            self.is_read(f"dialect {name} 44 34 - 1100", name, HOUSE)

    def test_words_in_another_order(self):
        for row in ("house dialect 44 34 - 1100", "dialect 44 house 34 - 1100", "dialect house 1100 44 34 -",
                    "dialect house - 34 44 1100"):
            self.no(row)

    def test_things_that_are_no_text(self):
        for thing in things_but_texts() + [Anything(), GOOD.split(" "), tuple(GOOD.split(" ")), GOOD.encode(), [GOOD]]:
            self.no(thing)
        for sign in NO_SIGNS:
            self.no(GOOD + sign)
            self.no(sign + GOOD)
            self.no(GOOD[:9] + sign + GOOD[10:])

    def test_new_each_time_and_by_name(self):
        first, second = dialect_in(row=GOOD), dialect_in(GOOD)
        self.assertIsNot(first[1], second[1])
        first[1].parts = ";"
        self.assertEqual(second[1].told(), HOUSE)
        self.is_read(GOOD, "house", HOUSE)


class House(unittest.TestCase):
    def test_the_dialect(self):
        self.assertIs(house().__class__, Dialect)
        self.assertEqual(house().told(), HOUSE)
        first = house()
        first.parts = ";"
        self.assertEqual(house().told(), HOUSE)


class HouseText(unittest.TestCase):
    def test_the_documents_examples(self):
        self.assertEqual(house_text([]), "")
        self.assertEqual(house_text([[""]]), LINE)

    def test_ordinary_tables(self):
        self.assertEqual(house_text([["a", "b"], ["c"]]), "a,b\nc\n")
        self.assertEqual(house_text([["a,b", "c"]]), "\"a,b\",c\n")
        self.assertEqual(house_text([["a\"b", "\""]]), "\"a\"\"b\",\"\"\"\"\n")
        self.assertEqual(house_text([["a\nb", ""], ["", ""]]), "\"a\nb\",\n,\n")
        self.assertEqual(house_text([[" a ", "'b'", "^;"]]), " a ,'b',^;\n")
        self.assertEqual(house_text([[",", "\"", LINE]]), "\",\",\"\"\"\",\"\n\"\n")

    def test_each_sign(self):
        for sign in SIGNS:
            for cell in (sign, "a" + sign, sign + "a", sign + sign, "\"" + sign):
                self.assertEqual(house_text([[cell, ""], [cell]]), model_house_text([[cell, ""], [cell]]))

    def test_against_the_model_and_read_again(self):
        for table in tables_by_chance(random.Random(92), 500):
            text = house_text(table)
            self.assertEqual(text, model_house_text(table))
            self.assertEqual(model_table(HOUSE, text), table)
            self.assertEqual(read(house(), text), table)
            self.assertEqual(house_table(text), table)

    def test_large_tables(self):
        for table in ([[""] * 20] * 60, [["a" * 400]], [["\"" * 20] * 20], [["a" * 20] * 20], [["\n"] * 20] * 20):
            self.assertEqual(house_text(table), model_house_text(table))
            if len(house_text(table)) <= 2000:
                self.assertEqual(house_table(house_text(table)), table)
        # More signs than a text has that is handed in: it is told, but not read again.
        long = [[""] * 20] * 59 + [["\"" * 400] + [""] * 19]
        self.assertEqual(len(house_text(long)), 2002)
        self.assertEqual(refusal(house_table, house_text(long)), (NoTable,))

    def test_what_is_no_table(self):
        for thing in things_but_tables():
            self.assertEqual(refusal(house_text, thing), (NoTable,), repr(thing)[:200])

    def test_what_is_handed_in_stays_and_by_name(self):
        table = [["a,", ""], [LINE]]
        kept = copy.deepcopy(table)
        self.assertEqual(house_text(table=table), "\"a,\",\n\"\n\"\n")
        self.assertEqual(table, kept)


class HouseTable(unittest.TestCase):
    def no(self, thing):
        self.assertEqual(refusal(house_table, thing), (NoTable,), repr(thing)[:200])

    def test_ordinary_texts(self):
        self.assertEqual(house_table(""), [])
        self.assertEqual(house_table(LINE), [[""]])
        self.assertEqual(house_table("a,b\nc\n"), [["a", "b"], ["c"]])
        self.assertEqual(house_table("\"a\"\"\n,\",\"\"\n"), [["a\"\n,", ""]])

    def test_texts_that_are_told_otherwise_are_read_too(self):
        # Quotes that were not needed.
        self.assertEqual(house_table("\"a\",\"\"\n"), [["a", ""]])
        self.assertEqual(house_table(" a, \n"), [[" a", " "]])

    def test_texts_that_are_not_read(self):
        for text in ("a", "\"a", "\"a\n", "a\"\n", "\"a\"b\n", "\"a\" \n", "a\nb", ",", "\"", "\"\"", "a\n\"b\n"):
            self.no(text)

    def test_what_is_read_and_is_no_table(self):
        self.assertEqual(len(house_table(LINE * 60)), 60)
        self.no(LINE * 61)
        self.assertEqual(house_table("," * 19 + LINE), [[""] * 20])
        self.no("," * 20 + LINE)
        self.assertEqual(house_table("a" * 400 + LINE), [["a" * 400]])
        self.no("a" * 401 + LINE)
        self.no("a" * 200 + LINE + "b," + "c" * 200 + LINE)

    def test_2000_and_2001_signs(self):
        good = [[""] * 20] * 59 + [["\"" * 399] + [""] * 19]
        self.assertEqual(len(house_text(good)), 2000)
        self.assertEqual(house_table(house_text(good)), good)
        for text in ("\"" * 2000 + LINE, LINE * 2001, "a\n" * 1001):
            self.no(text)

    def test_whatever_is_no_text(self):
        for thing in things_but_texts() + [Anything(), [["a"]], [], ["a\n"]]:
            self.no(thing)
        for sign in NO_SIGNS:
            self.no("a" + sign + LINE)

    def test_against_the_model(self):
        for text in all_texts(",\"\na", 5):
            table = model_table(HOUSE, text)
            if table is None:
                self.no(text)
            else:
                self.assertEqual(house_table(text), table, text)

    def test_the_askers_own_and_by_name(self):
        first, second = house_table(text="a,b\n"), house_table("a,b\n")
        first[0].append("c")
        first.append([])
        self.assertEqual(second, [["a", "b"]])
        self.assertEqual(house_table("a,b\n"), [["a", "b"]])


if __name__ == "__main__":
    unittest.main()
