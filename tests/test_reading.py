import random
import unittest

from dialecthall.dialects import Dialect
from dialecthall.errors import Broken, DialectError, NoText
from dialecthall.reading import furthest, kinds_of, read, table_of
from tests.helper import LINE, NO_SIGNS, SIGNS, TRUTHS, all_texts, model_far, model_walk, things_but_texts

PLAIN = Dialect(",")
QUOTING = Dialect(",", "'")
TWIN = Dialect(",", "'", twin=True)
FREEING = Dialect(",", "'", "^")
WIDE = Dialect(",", "'", "^", wide=True)
THIN = Dialect(",", "'", "^", thin=True)
STRAY = Dialect(",", "'", "^", stray=True)

# Each truth on and off, each number of signs, and signs with two or three roles.
SMALL = [told + truths for told in ((",", "'", "^"), (",", "'", "'"), (",'", "'", ""), (", ", "'", ","),
                                    ("'^ ", "',", "^")) for truths in TRUTHS]
BROAD = [(",", "", ""), (",;", "'\"", "^"), (",;|", "\"'", "^\\"), (",", "'", "^"), ("'", "',", ""), (" ", "'", "^"),
         (",", "' ", "^"), (",", "'", " ^"), ("a", "b", "a"), (",", "'\"", "\""), ("a", "a", "a")]


class Telling(unittest.TestCase):
    def is_read(self, dialect, text, table):
        self.assertEqual(read(dialect, text), table, (dialect.told(), text))
        self.assertIsNone(furthest(dialect, text))

    def breaks(self, dialect, text, row, place, word):
        with self.assertRaises(Broken, msg=(dialect.told(), text)) as caught:
            read(dialect, text)
        self.assertIs(caught.exception.__class__, Broken)
        self.assertEqual((caught.exception.row, caught.exception.place, caught.exception.word), (row, place, word),
                         (dialect.told(), text))
        far = furthest(dialect, text)
        self.assertIsInstance(far, tuple)
        self.assertEqual(far, (place, row, word))

    def as_the_model(self, told, text):
        dialect = Dialect(*told)
        kinds, table, state, word = model_walk(told, text)
        far = model_far(told, text)
        self.assertEqual(kinds_of(dialect, text), kinds, (told, text))
        self.assertEqual(furthest(dialect, text), far, (told, text))
        try:
            answer = read(dialect, text)
        except Broken as broken:
            self.assertEqual((broken.place, broken.row, broken.word), far, (told, text))
        else:
            self.assertIsNone(far, (told, text))
            self.assertEqual(answer, table, (told, text))
            self.assertEqual(table_of(text, kinds), table, (told, text))


class Read(Telling):
    def test_no_signs_and_line_alone(self):
        for dialect in (PLAIN, QUOTING, TWIN, FREEING, WIDE, THIN, STRAY, Dialect("a", "a", "a")):
            self.is_read(dialect, "", [])
            self.is_read(dialect, LINE, [[""]])
            self.is_read(dialect, LINE * 3, [[""], [""], [""]])
            self.assertEqual(kinds_of(dialect, ""), [])
            self.assertEqual(kinds_of(dialect, LINE), ["end"])

    def test_plain_rows(self):
        self.is_read(PLAIN, "a,b\nc\n", [["a", "b"], ["c"]])
        self.is_read(PLAIN, "ab c, d\n'e'\n", [["ab c", " d"], ["'e'"]])
        self.is_read(Dialect(",;"), "a,b;c\n", [["a", "b", "c"]])

    def test_cells_without_signs(self):
        self.is_read(PLAIN, ",\n", [["", ""]])
        self.is_read(PLAIN, "a,,b\n,\n\n,,c\n", [["a", "", "b"], ["", ""], [""], ["", "", "c"]])
        self.is_read(QUOTING, "''\n'','',\n", [[""], ["", "", ""]])
        self.is_read(THIN, "   \n , '' \n", [[""], ["", ""]])

    def test_the_documents_examples(self):
        self.is_read(QUOTING, "'a,b',c\n", [["a,b", "c"]])
        self.assertEqual(kinds_of(QUOTING, "'a,b',c\n"),
                         ["skip", "put", "put", "put", "skip", "part", "put", "end"])
        self.is_read(TWIN, "''''\n", [["'"]])
        self.assertEqual(kinds_of(TWIN, "''''\n"), ["skip", "skip", "put", "skip", "end"])
        self.breaks(QUOTING, "''''\n", 0, 2, "behind")

    def test_quotes(self):
        self.is_read(Dialect(",", "'\""), "'a\"b',\"c'd\"\n", [["a\"b", "c'd"]])
        self.is_read(TWIN, "'it''s',''''''\n", [["it's", "''"]])
        self.is_read(WIDE, "'a\nb','\n'\nc\n", [["a\nb", "\n"], ["c"]])
        self.is_read(STRAY, "it's,a''\n", [["it's", "a''"]])

    def test_freed_signs(self):
        self.is_read(FREEING, "^,a^'^^,'^',^^b'\n", [[",a'^", "',^b"]])
        self.is_read(WIDE, "^\na^\n,'^\n'\n", [["\na\n", "\n"]])
        self.is_read(THIN, "^  a,' b'  ,c \n", [["  a", " b", "c "]])
        self.is_read(Dialect("a", "a", "a"), "aab\naa\n", [["ab"], ["a"]])

    def test_what_is_told_may_be_larger_than_a_table(self):
        self.is_read(PLAIN, LINE * 2000, [[""]] * 2000)
        self.is_read(PLAIN, "," * 1999 + LINE, [[""] * 2000])
        self.is_read(PLAIN, "a" * 1999 + LINE, [["a" * 1999]])
        self.is_read(QUOTING, "'" + "b," * 998 + "'" + LINE, [["b," * 998]])


class Fails(Telling):
    def test_quote(self):
        self.breaks(QUOTING, "a'\n", 0, 1, "quote")
        self.breaks(QUOTING, "a,b\nc,d'", 1, 7, "quote")
        self.breaks(THIN, "  a '\n", 0, 4, "quote")
        self.breaks(FREEING, "^''\n", 0, 2, "quote")

    def test_line(self):
        self.breaks(QUOTING, "'\n'\n", 0, 1, "line")
        self.breaks(QUOTING, "a\nb\n'c\n", 2, 6, "line")
        self.breaks(FREEING, "a\n^\n", 1, 3, "line")
        self.breaks(FREEING, "'^\n", 0, 2, "line")

    def test_behind(self):
        self.breaks(QUOTING, "'a'b\n", 0, 3, "behind")
        self.breaks(QUOTING, "'a' \n", 0, 3, "behind")
        self.breaks(TWIN, "\n'a'^", 1, 4, "behind")
        self.breaks(THIN, "\n\n'' a", 2, 5, "behind")

    def test_cut(self):
        self.breaks(PLAIN, "a", 0, 1, "cut")
        self.breaks(PLAIN, "a,", 0, 2, "cut")
        self.breaks(PLAIN, "a,b\nc,d", 1, 7, "cut")
        self.breaks(QUOTING, "\n\n'a'", 2, 5, "cut")
        self.breaks(QUOTING, "'", 0, 1, "cut")
        self.breaks(TWIN, "''", 0, 2, "cut")
        self.breaks(FREEING, "a\n^", 1, 3, "cut")
        self.breaks(FREEING, "'^", 0, 2, "cut")
        self.breaks(WIDE, "'\n\n\n", 0, 4, "cut")
        self.breaks(PLAIN, "a" * 2000, 0, 2000, "cut")

    def test_blanks_that_are_dropped_at_the_end(self):
        self.is_read(THIN, " \n", [[""]])
        self.assertEqual(kinds_of(THIN, "  "), ["skip", "skip"])
        self.is_read(THIN, "  ", [])
        self.is_read(THIN, "a\n ", [["a"]])
        self.breaks(THIN, "a, ", 0, 3, "cut")

    def test_asked_again(self):
        for again in range(2):
            self.breaks(QUOTING, "a\nb'", 1, 3, "quote")
            self.is_read(QUOTING, "a\nb\n", [["a"], ["b"]])

    def test_a_place_is_no_truth(self):
        with self.assertRaises(Broken) as caught:
            read(QUOTING, "a\nb'")
        self.assertEqual([caught.exception.row.__class__, caught.exception.place.__class__], [int, int])


class Kinds(Telling):
    def test_of_a_text_that_is_read(self):
        self.assertEqual(kinds_of(THIN, " ^a,'b' \n"),
                         ["skip", "skip", "put", "part", "skip", "put", "skip", "skip", "end"])

    def test_up_to_the_sign_that_fails(self):
        self.assertEqual(kinds_of(QUOTING, "a'\n"), ["put"])
        self.assertEqual(kinds_of(QUOTING, "'a'b,c\n"), ["skip", "put", "skip"])
        self.assertEqual(kinds_of(QUOTING, "'\n"), ["skip"])
        self.assertEqual(kinds_of(Dialect(",", "'", ""), "a,b\n''x\n"),
                         ["put", "part", "put", "end", "skip", "skip"])

    def test_of_a_text_that_is_cut(self):
        self.assertEqual(kinds_of(QUOTING, "a,'b"), ["put", "part", "skip", "put"])
        self.assertEqual(kinds_of(FREEING, "^"), ["skip"])
        self.assertEqual(kinds_of(PLAIN, "," * 2000), ["part"] * 2000)


class Tables(unittest.TestCase):
    def test_kinds_that_no_dialect_tells(self):
        self.assertEqual(table_of("abc", ["end", "end", "end"]), [[""], [""], [""]])
        self.assertEqual(table_of("\n\n,", ["put", "put", "end"]), [["\n\n"]])
        self.assertEqual(table_of(",'\n^", ["put", "part", "put", "end"]), [[",", "\n"]])
        self.assertEqual(table_of("a\nb\n", ["skip", "skip", "skip", "skip"]), [])
        self.assertEqual(table_of("abcdef", ["part", "skip", "put", "part", "put", "end"]), [["", "c", "e"]])
        self.assertEqual(table_of("\n\n\n\n", ["put", "skip", "part", "end"]), [["\n", ""]])
        self.assertEqual(table_of("\n", ["part"]), [])

    def test_what_stands_behind_the_last_end_is_left_out(self):
        self.assertEqual(table_of("a\nbc", ["put", "end", "put", "put"]), [["a"]])
        self.assertEqual(table_of("a\nb,c", ["put", "end", "put", "part", "put"]), [["a"]])
        self.assertEqual(table_of("a,b", ["put", "part", "put"]), [])

    def test_none_of_either(self):
        self.assertEqual(table_of("", []), [])

    def test_all_kinds_of_some_length(self):
        words = {"p": "put", "c": "part", "e": "end", "s": "skip"}
        for text in all_texts("pces", 5):
            signs = "xyz'\n"[:len(text)]
            rows = "".join({"p": sign, "c": "|", "e": "/", "s": ""}[kind] for kind, sign in zip(text, signs))
            wanted = [row.split("|") for row in rows.split("/")[:-1]]
            self.assertEqual(table_of(signs, [words[kind] for kind in text]), wanted, text)

    def test_kinds_stay_as_they_are(self):
        kinds = ["put", "part", "put", "end", "end"]
        self.assertEqual(table_of("a,b\n\n", kinds), [["a", "b"], [""]])
        self.assertEqual(kinds, ["put", "part", "put", "end", "end"])

    def test_kinds_changed_behind(self):
        kinds = ["put", "end"]
        table = table_of("a\n", kinds)
        kinds[0] = "skip"
        self.assertEqual(table, [["a"]])
        self.assertEqual(table_of("a\n", kinds), [[""]])

    def test_by_name(self):
        self.assertEqual(table_of(text="a\n", kinds=["put", "end"]), [["a"]])
        self.assertEqual(read(dialect=PLAIN, text="a\n"), [["a"]])
        self.assertEqual(kinds_of(dialect=PLAIN, text="a\n"), ["put", "end"])
        self.assertEqual(furthest(dialect=PLAIN, text="a"), (1, 0, "cut"))


class NoTexts(unittest.TestCase):
    def refused(self, dialect, thing):
        for asked in (read, kinds_of, furthest):
            with self.assertRaises(DialectError, msg=(asked.__name__, repr(thing))) as caught:
                asked(dialect, thing)
            self.assertIs(caught.exception.__class__, NoText)

    def test_things_of_other_kinds(self):
        for thing in things_but_texts():
            self.refused(QUOTING, thing)

    def test_signs_that_are_none(self):
        for sign in NO_SIGNS:
            self.refused(PLAIN, sign)
            self.refused(PLAIN, "a" + sign + LINE)
        self.refused(PLAIN, "a\tb\n")
        self.refused(PLAIN, "a%b\n")

    def test_length(self):
        for sign in (LINE, "a", ","):
            self.assertEqual(len(kinds_of(PLAIN, sign * 2000)), 2000)
            self.refused(PLAIN, sign * 2001)
        self.assertEqual(read(PLAIN, "a" * 1999 + LINE), [["a" * 1999]])
        self.refused(PLAIN, "a" * 2000 + LINE)

    def test_ahead_of_all_else(self):
        self.refused(QUOTING, "a'\n\t")
        self.refused(QUOTING, "a'%")
        self.refused(QUOTING, "a'" + "b" * 1999)
        self.refused(QUOTING, "'a'b" + LINE * 1997)
        self.refused(PLAIN, "a%")

    def test_asked_again(self):
        for again in range(2):
            self.refused(PLAIN, None)
            self.assertEqual(read(PLAIN, "a\n"), [["a"]])


class AskersOwn(unittest.TestCase):
    def test_tables(self):
        for dialect, text, table in ((PLAIN, "a,b\n\n", [["a", "b"], [""]]), (PLAIN, "", []),
                                     (QUOTING, "'',\n\n\n", [["", ""], [""], [""]])):
            first, second = read(dialect, text), read(dialect, text)
            for row in first:
                row.append("x")
                row[0] = "y"
            first.append(["z"])
            self.assertEqual(second, table)
            self.assertEqual(read(dialect, text), table)
            self.assertEqual(table_of(text, kinds_of(dialect, text)), table)

    def test_rows_of_one_table(self):
        for table in (read(PLAIN, LINE * 4), table_of(LINE * 4, ["end"] * 4)):
            table[1].append("x")
            self.assertEqual(table, [[""], ["", "x"], [""], [""]])

    def test_tables_of_kinds(self):
        kinds = ["put", "end", "end"]
        first, second = table_of("a\n\n", kinds), table_of("a\n\n", kinds)
        first[0][0] = "x"
        first.pop()
        self.assertEqual(second, [["a"], [""]])
        self.assertEqual(table_of("a\n\n", kinds), [["a"], [""]])

    def test_kinds(self):
        for dialect, text in ((PLAIN, "a,b\n"), (PLAIN, ""), (QUOTING, "a'"), (QUOTING, "'a")):
            first, second = kinds_of(dialect, text), kinds_of(dialect, text)
            kept = list(second)
            first.append("x")
            first[0] = "y"
            self.assertEqual(second, kept)
            self.assertEqual(kinds_of(dialect, text), kept)
            self.assertIsInstance(second, list)

    def test_the_dialect_stays(self):
        for dialect in (PLAIN, TWIN, WIDE):
            told = dialect.told()
            read(dialect, "a,b\n")
            kinds_of(dialect, "'")
            furthest(dialect, "a'b")
            self.assertEqual(dialect.told(), told)

    def test_two_dialects_do_not_hang_together(self):
        for again in range(2):
            self.assertEqual(read(Dialect(","), "a,b;c\n"), [["a", "b;c"]])
            self.assertEqual(read(Dialect(";"), "a,b;c\n"), [["a,b", "c"]])


class AllTogether(Telling):
    def test_every_short_text(self):
        for told in SMALL:
            for text in all_texts(",'^ a\n", 4):
                self.as_the_model(told, text)

    def test_longer_texts(self):
        chance = random.Random(7)
        for told in BROAD:
            for truths in TRUTHS:
                for length in (6, 12, 30, 30):
                    text = "".join(chance.choice(",;|'\"^\\ ab\n\n,") for sign in range(length))
                    self.as_the_model(told + truths, text)
                    self.as_the_model(told + truths, text + LINE)

    def test_texts_of_all_signs(self):
        chance = random.Random(8)
        for told in BROAD:
            for truths in TRUTHS:
                for length in (40, 400):
                    self.as_the_model(told + truths, "".join(chance.choice(SIGNS) for sign in range(length)) + LINE)

    def test_two_thousand_signs(self):
        chance = random.Random(9)
        for truths in TRUTHS:
            text = "".join(chance.choice(["a", ",", "b\n", "^,", "d"]) for sign in range(2500))[:2000]
            self.as_the_model((",", "'", "^") + truths, text)


if __name__ == "__main__":
    unittest.main()
