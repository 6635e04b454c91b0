import random
import unittest

from dialecthall.dialects import Dialect
from dialecthall.errors import DialectError, NoText
from dialecthall.families import family
from dialecthall.finder import common, fallen, finding, found_all
from tests.helper import LINE, NO_SIGNS, TRUTHS, model_fall, model_table, some_told, things_but_texts

NONE = (False, False, False, False)
COMMA = Dialect(",")
SEMI = Dialect(";")
QUOTING = Dialect(",", "'")
TWIN = Dialect(",", "'", twin=True)
WIDE = Dialect(",", "'", wide=True)
BROAD = family([",", ";"], ["'", ""], ["", "^"], [NONE, (True, True, False, False), (False, False, True, True)])


class Document(unittest.TestCase):
    def test_the_documents_example(self):
        dialects = [Dialect(",", "'"), Dialect(",", "a")]
        self.assertEqual(fallen(dialects, "a'b\n"), [(1, 0, 0, "quote"), (3, 1, 0, "line")])
        self.assertEqual(finding(dialects, "a'b\n"), ("none", (1, 0, 3, "line")))

    def test_turned_about(self):
        dialects = [Dialect(",", "a"), Dialect(",", "'")]
        self.assertEqual(fallen(dialects, "a'b\n"), [(1, 1, 0, "quote"), (3, 0, 0, "line")])
        self.assertEqual(finding(dialects, "a'b\n"), ("none", (0, 0, 3, "line")))


class Found(unittest.TestCase):
    def test_who_takes_a_text(self):
        self.assertEqual(finding([COMMA, SEMI], "a,b\n"), ("read", [(0, [["a", "b"]]), (1, [["a,b"]])]))
        self.assertEqual(fallen([COMMA, SEMI], "a,b\n"), [])
        self.assertEqual(finding([QUOTING, COMMA, SEMI], "a'\n"), ("read", [(1, [["a'"]]), (2, [["a'"]])]))
        self.assertEqual(fallen([QUOTING, COMMA, SEMI], "a'\n"), [(1, 0, 0, "quote")])

    def test_no_dialects(self):
        for text in ("", LINE, "a", "a,b\n" * 500):
            for even in (False, True):
                self.assertEqual(finding([], text, even), ("none", None))
                self.assertEqual(fallen([], text, even), [])
                self.assertIsNone(common([], text, even))
                self.assertEqual(found_all([], [text], even), [])
        self.assertEqual(found_all([], []), [])

    def test_one_dialect(self):
        self.assertEqual(finding([WIDE], "'a\n'\n"), ("read", [(0, [["a\n"]])]))
        self.assertEqual(finding([QUOTING], "'a\n'\n"), ("none", (0, 0, 2, "line")))
        self.assertEqual(finding([COMMA], "a\nb"), ("none", (0, 1, 3, "cut")))
        self.assertEqual(fallen([COMMA], "a\nb"), [(3, 0, 1, "cut")])

    def test_the_text_without_signs(self):
        for even in (False, True):
            self.assertEqual(finding(BROAD, "", even), ("read", [(place, []) for place in range(24)]))
            self.assertEqual(fallen(BROAD, "", even), [])
            self.assertEqual(common(BROAD, "", even), [])

    def test_one_dialect_24_times(self):
        self.assertEqual(finding([COMMA] * 24, "a\n"), ("read", [(place, [["a"]]) for place in range(24)]))
        self.assertEqual(fallen([COMMA] * 24, "a\nb"), [(3, place, 1, "cut") for place in range(24)])
        self.assertEqual(finding([COMMA] * 24, "a\nb"), ("none", (0, 1, 3, "cut")))

    def test_several_fall_at_one_place(self):
        dialects = [TWIN, QUOTING, Dialect(",", "'", stray=True), QUOTING, COMMA]
        self.assertEqual(fallen(dialects, "b\n'a'x"),
                         [(5, 0, 1, "behind"), (5, 1, 1, "behind"), (5, 2, 1, "behind"), (5, 3, 1, "behind"),
                          (6, 4, 1, "cut")])
        self.assertEqual(finding(dialects, "b\n'a'x"), ("none", (4, 1, 6, "cut")))
        self.assertEqual(finding(dialects[:4], "b\n'a'x"), ("none", (0, 1, 5, "behind")))

    def test_sorted_by_at_and_then_by_place(self):
        dialects = [COMMA, QUOTING, Dialect(",", "b"), SEMI, QUOTING, Dialect(",", "a")]
        self.assertEqual(fallen(dialects, "xb'a"),
                         [(1, 2, 0, "quote"), (2, 1, 0, "quote"), (2, 4, 0, "quote"), (3, 5, 0, "quote"),
                          (4, 0, 0, "cut"), (4, 3, 0, "cut")])
        self.assertEqual(finding(dialects, "xb'a"), ("none", (0, 0, 4, "cut")))

    def test_places_of_two_figures_are_sorted_as_numbers(self):
        dialects = [COMMA] * 12
        self.assertEqual([told[1] for told in fallen(dialects, "a")], list(range(12)))
        self.assertEqual([told[0] for told in fallen([Dialect(",", "z")] + [COMMA] * 11, "a" * 9 + "z" + "a")],
                         [9] + [11] * 11)

    def test_kinds(self):
        found = finding([COMMA], "a\n")
        self.assertEqual([found.__class__, found[1].__class__, found[1][0].__class__], [tuple, list, tuple])
        lost = finding([COMMA], "a")
        self.assertEqual([lost.__class__, lost[1].__class__], [tuple, tuple])
        falls = fallen([COMMA], "a")
        self.assertEqual([falls.__class__, falls[0].__class__], [list, tuple])


class Even(unittest.TestCase):
    def test_rows_of_as_many_cells(self):
        for text in ("a\n", "a,b\n", "a,b\nc,d\n", "\n\n\n", ",,\na,b,\n", "'a,b',c\nd,e\n"):
            self.assertEqual(finding([QUOTING], text, True), finding([QUOTING], text))
            self.assertEqual(finding([QUOTING], text, True)[0], "read")
            self.assertEqual(fallen([QUOTING], text, True), [])

    def test_rows_of_unlike_numbers_of_cells(self):
        self.assertEqual(fallen([COMMA], "a,b\nc\n"), [])
        self.assertEqual(fallen([COMMA], "a,b\nc\n", True), [(5, 0, 1, "uneven")])
        self.assertEqual(finding([COMMA], "a,b\nc\n", True), ("none", (0, 1, 5, "uneven")))
        self.assertEqual(fallen([COMMA], "a\nb,c\nd\n", even=True), [(5, 0, 1, "uneven")])
        self.assertEqual(finding([COMMA, SEMI], "a,b\nc\n", True), ("read", [(1, [["a,b"], ["c"]])]))

    def test_the_first_row_is_the_odd_one(self):
        self.assertEqual(fallen([COMMA], "a\nb,c\nd,e\n", True), [(5, 0, 1, "uneven")])
        self.assertEqual(fallen([COMMA], "a,b\nc\nd\n", True), [(5, 0, 1, "uneven")])

    def test_a_later_row_is_the_odd_one(self):
        self.assertEqual(fallen([COMMA], "a,b\n" * 5 + "c\n" + "a,b\n", True), [(21, 0, 5, "uneven")])
        self.assertEqual(fallen([COMMA], "\n\n\n,\n", True), [(4, 0, 3, "uneven")])

    def test_what_comes_first(self):
        self.assertEqual(fallen([QUOTING], "a,b\nc\nd'", True), [(5, 0, 1, "uneven")])
        self.assertEqual(fallen([QUOTING], "a,b\nc\nd", True), [(5, 0, 1, "uneven")])
        self.assertEqual(fallen([QUOTING], "a,b\nc'\nd", True), [(5, 0, 1, "quote")])
        self.assertEqual(fallen([QUOTING], "a,b\nc", True), [(5, 0, 1, "cut")])
        self.assertEqual(fallen([QUOTING], "a,b\nc,d,e", True), [(9, 0, 1, "cut")])
        self.assertEqual(fallen([QUOTING], "a,b\n'c\n", True), [(6, 0, 1, "line")])

    def test_line_within_a_cell_ends_no_row(self):
        self.assertEqual(fallen([WIDE], "a,b\n'c\n',d\n", True), [])
        self.assertEqual(fallen([WIDE], "a,b\n'c\n'\n", True), [(8, 0, 1, "uneven")])
        self.assertEqual(fallen([Dialect(",", "", "^", wide=True)], "a,b\nc^\n,d\n", True), [])

    def test_not_asked(self):
        self.assertEqual(finding([COMMA], "a,b\nc\n", False), ("read", [(0, [["a", "b"], ["c"]])]))
        self.assertEqual(finding([COMMA], "a,b\nc\n"), ("read", [(0, [["a", "b"], ["c"]])]))
        self.assertEqual(common([COMMA], "a,b\nc\n"), [["a", "b"], ["c"]])
        self.assertIsNone(common([COMMA], "a,b\nc\n", True))
        self.assertEqual(found_all([COMMA], ["a,b\nc\n"]), [0])
        self.assertEqual(found_all([COMMA], ["a,b\nc\n"], True), [])

    def test_two_texts_of_unlike_numbers_of_cells(self):
        self.assertEqual(found_all([COMMA], ["a,b\n", "c\n"], True), [0])


class FoundAll(unittest.TestCase):
    def test_those_that_take_all(self):
        dialects = [COMMA, QUOTING, WIDE, SEMI]
        self.assertEqual(found_all(dialects, ["a\n"]), [0, 1, 2, 3])
        self.assertEqual(found_all(dialects, ["a\n", "a'\n"]), [0, 3])
        self.assertEqual(found_all(dialects, ["'a\n'\n"]), [0, 2, 3])
        self.assertEqual(found_all(dialects, ["'a\n'\n", "a'\n", "b\n"]), [0, 3])
        self.assertEqual(found_all(dialects, ["'a\nb'\n", "a'\n", "b"]), [])
        self.assertEqual(found_all(dialects, ["b", "a\n"]), [])

    def test_no_texts(self):
        self.assertEqual(found_all([COMMA, SEMI, QUOTING], []), [0, 1, 2])
        self.assertEqual(found_all(BROAD, [], True), list(range(24)))

    def test_60_texts(self):
        texts = ["a,b\n" * place for place in range(60)]
        self.assertEqual(found_all([COMMA, QUOTING], texts, True), [0, 1])
        self.assertEqual(found_all([COMMA, QUOTING], texts[:59] + ["'a\n'\n"]), [0])
        self.assertEqual(found_all([COMMA, QUOTING], texts[:59] + ["'a\n'\n"], True), [0])
        self.assertEqual(found_all([COMMA, WIDE], texts[:59] + ["a\nb'\n"]), [0])

    def test_told_is_a_list(self):
        self.assertIsInstance(found_all([COMMA], ["a\n"]), list)


class Common(unittest.TestCase):
    def test_the_table_that_all_read(self):
        self.assertEqual(common([COMMA, QUOTING, SEMI], "a\n"), [["a"]])
        self.assertEqual(common([COMMA, QUOTING], "a,b\n"), [["a", "b"]])
        self.assertEqual(common([COMMA], "a,b\n"), [["a", "b"]])

    def test_two_read_unlike_tables(self):
        self.assertIsNone(common([COMMA, QUOTING, SEMI], "a,b\n"))
        self.assertIsNone(common([SEMI, COMMA], "a,b\n"))
        self.assertIsNone(common([COMMA, SEMI, COMMA], "a;b\n"))

    def test_those_that_do_not_take_it_say_nothing(self):
        self.assertEqual(common([QUOTING, COMMA, SEMI], "a'\n"), [["a'"]])
        self.assertEqual(common([COMMA, SEMI], "a,b\nc\n", True), [["a,b"], ["c"]])

    def test_none_takes_it(self):
        self.assertIsNone(common([COMMA, SEMI], "a"))
        self.assertIsNone(common([COMMA], "a,b\nc\n", True))


class AsTheModel(unittest.TestCase):
    def check(self, told, text, even):
        dialects = [Dialect(*seven) for seven in told]
        falls = [model_fall(seven, text, even) for seven in told]
        tables = [(place, model_table(told[place], text)) for place, fall in enumerate(falls) if fall is None]
        wanted = sorted((fall[0], place) + fall[1:] for place, fall in enumerate(falls) if fall is not None)
        self.assertEqual(fallen(dialects, text, even), wanted, (told, text, even))
        found = finding(dialects, text, even)
        if tables:
            self.assertEqual(found, ("read", tables), (told, text, even))
        else:
            last = max(range(len(told)), key=lambda place: (falls[place][0], -place))
            self.assertEqual(found, ("none", (last, falls[last][1], falls[last][0], falls[last][2])))
        alike = bool(tables) and all(table == tables[0][1] for place, table in tables)
        self.assertEqual(common(dialects, text, even), tables[0][1] if alike else None, (told, text, even))
        self.assertEqual(found_all(dialects, [text], even), [place for place, table in tables])

    def test_by_chance(self):
        chance = random.Random(21)
        for again in range(800):
            told = [some_told(chance) for dialect in range(chance.choice([1, 2, 5, 24]))]
            text = "".join(chance.choice(",'^ab \n\n,") for sign in range(chance.choice([2, 4, 6, 9])))
            for even in (False, True):
                self.check(told, text + chance.choice(["", LINE]), even)

    def test_rows_of_a_few_cells(self):
        chance = random.Random(22)
        told = [(parts, quotes, "") + truths for parts in (",", ";") for quotes in ("'", "") for truths in TRUTHS[::3]]
        rows = ["a,b\n", "a;b\n", "'a,b'\n", "a\n", ",;\n", "'a\nb';c\n", "x'\n", ";,", "''\n"]
        for again in range(200):
            text = "".join(chance.choice(rows) for row in range(chance.choice([1, 2, 2, 3])))
            for even in (False, True):
                self.check(told, text, even)

    def test_several_texts(self):
        chance = random.Random(23)
        for again in range(100):
            told = [some_told(chance) for dialect in range(12)]
            texts = ["".join(chance.choice(",'^a \n") for sign in range(3)) + LINE for text in range(3)]
            for even in (False, True):
                wanted = [place for place, seven in enumerate(told)
                          if all(model_fall(seven, text, even) is None for text in texts)]
                self.assertEqual(found_all([Dialect(*seven) for seven in told], texts, even), wanted)


class NoTexts(unittest.TestCase):
    def refused(self, dialects, thing):
        for even in (False, True):
            for asked in (finding, fallen, common):
                self.with_no_text(asked, dialects, thing, even)
            self.with_no_text(found_all, dialects, [thing], even)

    def with_no_text(self, asked, dialects, thing, even):
        with self.assertRaises(DialectError, msg=(asked.__name__, repr(thing)[:80])) as caught:
            asked(dialects, thing, even)
        self.assertIs(caught.exception.__class__, NoText)

    def test_things_of_other_kinds(self):
        for thing in things_but_texts():
            for dialects in ([], [QUOTING], BROAD):
                self.refused(dialects, thing)

    def test_signs_that_are_none(self):
        for sign in NO_SIGNS:
            self.refused([QUOTING, COMMA], "a" + sign + LINE)
            self.refused([], sign)

    def test_2000_and_2001_signs(self):
        text = "a,b\n" * 500
        for dialects in ([], [COMMA], [SEMI, QUOTING]):
            self.assertEqual([told[0] for told in fallen(dialects, "a" * 2000)], [2000] * len(dialects))
            self.assertEqual(found_all(dialects, [text]), list(range(len(dialects))))
            self.refused(dialects, text + LINE)
            self.refused(dialects, "a" * 2001)

    def test_ahead_of_all_else(self):
        self.refused([QUOTING], "a'%")
        self.refused([QUOTING], "a'" + LINE * 1999)

    def test_one_among_good_texts(self):
        for dialects in ([], [COMMA], [QUOTING, SEMI]):
            for texts in (["a\n", None], [None, "a\n"], ["a", "a'", "\t"], ["a'\n", "b%"], ["a"] * 59 + ["b" * 2001]):
                self.with_no_text(found_all, dialects, texts, False)

    def test_asked_again(self):
        for again in range(2):
            self.refused([COMMA], None)
            self.assertEqual(finding([COMMA], "a\n"), ("read", [(0, [["a"]])]))


class AskersOwn(unittest.TestCase):
    def test_tables_of_what_is_found(self):
        first = finding([COMMA, QUOTING, COMMA], "a\n\n")
        second = finding([COMMA, QUOTING, COMMA], "a\n\n")
        first[1][0][1][0].append("x")
        first[1][0][1].append(["y"])
        self.assertEqual(first[1][1:], [(1, [["a"], [""]]), (2, [["a"], [""]])])
        first[1].pop()
        self.assertEqual(second, ("read", [(place, [["a"], [""]]) for place in range(3)]))
        self.assertEqual(finding([COMMA, QUOTING, COMMA], "a\n\n"), second)

    def test_other_lists(self):
        for asked, wanted in ((lambda: fallen([COMMA, SEMI], "a"), [(1, 0, 0, "cut"), (1, 1, 0, "cut")]),
                              (lambda: found_all([COMMA, SEMI], ["a\n"]), [0, 1]),
                              (lambda: common([COMMA, SEMI], "a\n"), [["a"]])):
            first, second = asked(), asked()
            first.append("x")
            first[0] = None
            self.assertEqual(second, wanted)
            self.assertEqual(asked(), wanted)
        table = common([COMMA, COMMA], "a\n")
        table[0].append("x")
        self.assertEqual(common([COMMA, COMMA], "a\n"), [["a"]])

    def test_what_is_handed_in_stays(self):
        dialects, texts = [SEMI, COMMA], ["b\n", "a,b\n"]
        finding(dialects, texts[1])
        fallen(dialects, "a")
        found_all(dialects, texts, True)
        common(dialects, texts[0])
        self.assertEqual((dialects, texts), ([SEMI, COMMA], ["b\n", "a,b\n"]))
        found = finding(dialects, texts[1])
        dialects.pop()
        texts.clear()
        self.assertEqual(found, ("read", [(0, [["a,b"]]), (1, [["a", "b"]])]))

    def test_by_name(self):
        self.assertEqual(finding(dialects=[COMMA], text="a,b\nc\n", even=True), ("none", (0, 1, 5, "uneven")))
        self.assertEqual(fallen(dialects=[COMMA], text="a,b\nc\n", even=True), [(5, 0, 1, "uneven")])
        self.assertEqual(found_all(dialects=[COMMA], texts=["a,b\nc\n"], even=True), [])
        self.assertIsNone(common(dialects=[COMMA], text="a,b\nc\n", even=True))


if __name__ == "__main__":
    unittest.main()
