import copy
import random
import unittest

from dialecthall.dialects import Dialect
from dialecthall.errors import DialectError, NoTable, NoWriting
from dialecthall.reading import read
from dialecthall.signs import is_text
from dialecthall.writing import shortest
from tests.helper import (LINE, SIGNS, SMALL, TRUTHS, lengths_of_tables, model_far, model_table, model_walk,
                          model_writing, signs_that_tell, things_but_tables)

PLAIN = Dialect(",")
QUOTING = Dialect(",", "'")
TWIN = Dialect(",", "'", twin=True)
FREEING = Dialect(",", "", "^")
WIDE = Dialect(",", "'", wide=True)


def small_tables(signs):
    """Tables of one row with at most two signs in at most three cells, and some of two rows."""
    cells = [""] + list(signs) + [one + other for one in signs for other in signs]
    tables = [[]] + [[[cell]] for cell in cells]
    tables += [[[cell, ""]] for cell in cells] + [[["", cell]] for cell in cells]
    tables += [[[one, other]] for one in signs for other in signs]
    tables += [[["", ""], [cell]] for cell in cells] + [[[cell], [""]] for cell in cells] + [[["", "", ""]]]
    return tables


class Writing(unittest.TestCase):
    def written(self, dialect, table, length):
        """A text of just so many signs that is read as the table."""
        text = shortest(dialect, table)
        self.assertIsInstance(text, str)
        self.assertEqual(len(text), length, (dialect.told(), table, text))
        told = dialect.told()
        self.assertIsNone(model_far(told, text), (told, table, text))
        self.assertEqual(model_table(told, text), table, (told, text))
        if len(text) <= 2000:
            self.assertTrue(is_text(text))
            self.assertEqual(read(dialect, text), table)

    def lacks(self, dialect, table, row, cell):
        with self.assertRaises(DialectError, msg=(dialect.told(), table)) as caught:
            shortest(dialect, table)
        self.assertIs(caught.exception.__class__, NoWriting)
        fields = (caught.exception.row, caught.exception.cell)
        self.assertEqual(fields, (row, cell), (dialect.told(), table))
        self.assertEqual([field.__class__ for field in fields], [int, int])

    def as_the_model(self, told, table):
        answer = model_writing(told, table)
        if answer[0] == "text":
            self.written(Dialect(*told), table, answer[1])
        else:
            self.lacks(Dialect(*told), table, answer[1], answer[2])


class Ordinary(Writing):
    def test_where_there_is_one_text_alone(self):
        for dialect, table, text in ((PLAIN, [["a", "b"], ["c"]], "a,b\nc\n"),
                                     (QUOTING, [["a,b", "c"]], "'a,b',c\n"),
                                     (TWIN, [["it's", "'"]], "'it''s',''''\n"),
                                     (FREEING, [["a,b", "^"]], "a^,b,^^\n"),
                                     (WIDE, [["a\nb"], ["c"]], "'a\nb'\nc\n")):
            self.assertEqual(shortest(dialect, table), text)

    def test_no_rows_and_no_signs(self):
        for told in SMALL:
            dialect = Dialect(*told)
            self.assertEqual(shortest(dialect, []), "")
            self.assertEqual(shortest(dialect, [[""]]), LINE)
            self.assertEqual(shortest(dialect, [[""]] * 60), LINE * 60)
        self.assertEqual(shortest(QUOTING, [["", ""], [""], ["", "", ""]]), ",\n\n,,\n")

    def test_blanks_at_the_beginning(self):
        self.written(PLAIN, [["  a", " "]], 6)
        self.written(Dialect(",", "'", thin=True), [["  a", " "]], 10)
        self.written(Dialect(",", "", "^", thin=True), [["  a", " "]], 8)
        self.written(Dialect(",", "'", "^", thin=True), [[" a b ", "c "]], 10)
        self.lacks(Dialect(",", thin=True), [["a", "b "], ["c", " d"]], 1, 1)
        self.written(Dialect(" ", "'", thin=True), [["a", " b"]], 7)
        self.lacks(Dialect(" ", thin=True), [["a", "b c"]], 0, 1)

    def test_line_in_a_cell(self):
        self.lacks(PLAIN, [["a", "b\n"]], 0, 1)
        self.lacks(Dialect(",", wide=True), [["a", "b\n"]], 0, 1)
        self.lacks(QUOTING, [["a"], ["\n"]], 1, 0)
        self.written(WIDE, [["a"], ["\n"]], 6)
        self.lacks(FREEING, [["", "", "\n", "a"]], 0, 2)
        self.written(Dialect(",", "", "^", wide=True), [["", "", "\n", "a"]], 7)
        self.written(Dialect(",", "'", "^", wide=True), [["\n\n\n", "\n"]], 9)

    def test_quotes_in_a_cell(self):
        self.lacks(QUOTING, [["a", "'"]], 0, 1)
        self.lacks(QUOTING, [["a'", "b"]], 0, 0)
        self.written(Dialect(",", "'", stray=True), [["a'", "b"]], 5)
        self.lacks(Dialect(",", "'", stray=True), [["'a", "b"]], 0, 0)
        self.written(Dialect(",", "'\""), [["'", "\""]], 8)
        self.lacks(Dialect(",", "'\""), [["'", "\"'"]], 0, 1)
        self.written(Dialect(",", "'\"", twin=True), [["'", "\"'"]], 10)
        self.written(Dialect(",", "'", "'"), [["'", "a'"]], 7)

    def test_never_a_part(self):
        for dialect in (Dialect("a", "a", "a"), Dialect(",", "", ","), Dialect(",;", "", ";,"),
                        Dialect(",", "'", ",'")):
            self.lacks(dialect, [["", ""]], 0, 0)
            self.lacks(dialect, [["b"], ["c", "d"]], 1, 0)
        self.written(Dialect(",", "'", ","), [["", "b"]], 5)

    def test_each_sign(self):
        for sign in SIGNS:
            table = [["a", sign], [sign + "b", ""]]
            for told in ((",", "'", "^"), (",", "'", ""), (",;", "'\"", "a"), (sign if sign != LINE else ",", "'", "")):
                for truths in (TRUTHS[0], TRUTHS[5], TRUTHS[10], TRUTHS[15]):
                    self.as_the_model(told + truths, table)

    def test_asked_again_and_by_name(self):
        for again in range(2):
            self.assertEqual(shortest(dialect=QUOTING, table=[["a,"]]), "'a,'\n")
            self.lacks(QUOTING, [["'"]], 0, 0)
        self.assertEqual(QUOTING.told(), (",", "'", "", False, False, False, False))


class WhatNoTextGetsPast(Writing):
    def test_the_first_cell_that_can_not_be_written(self):
        self.lacks(PLAIN, [["a", "b"], ["c", ",", "d", ","], [","]], 1, 1)
        self.lacks(PLAIN, [["a"] * 20] * 10 + [[""] * 19 + ["b,"]] + [[LINE]], 10, 19)
        self.lacks(PLAIN, [[""]] * 59 + [[LINE]], 59, 0)

    def test_the_token_that_comes_next_may_be_the_part_or_the_end(self):
        # A cell that is plain can not be left with a part that frees.
        self.lacks(Dialect(",", "", ","), [["", "b"]], 0, 0)
        self.lacks(Dialect(",", "'", ",", thin=True), [["a", "b\n", ""]], 0, 1)

    def test_states_that_are_not_live_do_not_count(self):
        # Within quotes that free there is no way back, though a text puts out more signs there.
        self.lacks(Dialect(",", "'\"", "\"", wide=False), [["a\n"], ["b"]], 0, 0)
        self.lacks(Dialect(",'", "'", "'"), [["a", "\n'"]], 0, 1)
        for told in SMALL:
            for table in ([["a", "\n,"], ["b"]], [["'\n", "a"]], [["\"", "'\"\n", "a"]], [[" \n ", ""]]):
                self.as_the_model(told, table)


class SmallTables(Writing):
    def test_against_all_short_texts(self):
        for told in SMALL:
            most = 5 if len(signs_that_tell(told)) <= 5 else 4
            lengths = lengths_of_tables(told, most)
            dialect = Dialect(*told)
            for table in sorted(lengths):
                self.written(dialect, [list(row) for row in table], lengths[table])
            for table in small_tables(signs_that_tell(told)):
                if tuple(tuple(row) for row in table) not in lengths:
                    self.none_so_short(dialect, table, most)

    def none_so_short(self, dialect, table, most):
        try:
            text = shortest(dialect, table)
        except NoWriting:
            self.assertEqual(model_writing(dialect.told(), table)[0], "none", (dialect.told(), table))
        else:
            self.assertGreater(len(text), most, (dialect.told(), table))
            self.assertEqual(read(dialect, text), table)

    def test_against_a_search_token_by_token(self):
        for told in SMALL:
            for table in small_tables(signs_that_tell(told)):
                self.as_the_model(told, table)

    def test_random_tables(self):
        chance = random.Random(11)
        for told in SMALL:
            for again in range(6):
                signs = chance.choice([signs_that_tell(told), "ab", "a '", SIGNS])
                table = [["".join(chance.choice(signs) for sign in range(chance.choice([0, 0, 1, 2, 5])))
                          for cell in range(chance.choice([1, 2, 3]))] for row in range(chance.choice([1, 2, 4]))]
                self.as_the_model(told, table)


class LargeTables(Writing):
    def test_most_rows_cells_and_signs(self):
        broad = (",;|", "'\"", "^\\")
        for truths in (TRUTHS[0], TRUTHS[12], TRUTHS[15]):
            for table in ([["a" * 400]], [["'" * 400]], [[LINE * 399, "'"]], [[""] * 20] * 60, [["a", ","] * 3] * 60,
                          [["\"'^,\\ |;" * 2 + "\n  ;"] * 20], [[""] * 19 + ["'\"\n,^ "]] * 60):
                self.as_the_model(broad + truths, table)
        self.written(PLAIN, [["abc"] * 2] * 60, 480)
        self.written(PLAIN, [["ab"] * 20] * 10, 600)
        self.lacks(PLAIN, [["ab"] * 20] * 9 + [["ab"] * 19 + ["a,"]], 9, 19)

    def test_a_text_of_more_than_2000_signs(self):
        table = [[","] * 6 + [""] * 14 for row in range(60)]
        self.assertEqual(sum(len(cell) for row in table for cell in row), 360)
        self.written(QUOTING, table, 1200 + 3 * 360)
        self.written(Dialect(",", "'", "^"), table, 1200 + 2 * 360)
        table[0] = [",'"] * 20
        self.written(Dialect(",", "'", twin=True, wide=True), table, 1200 + 3 * 354 + 5 * 20)

    def test_its_signs_lead_there_step_by_step(self):
        table = [["'\n"] * 3 + [""] * 17] * 60
        text = shortest(Dialect(",", "'", twin=True, wide=True), table)
        self.assertEqual(len(text), 1200 + 180 * 5)
        kinds, read_so_far, state, word = model_walk((",", "'", "", True, True, False, False), text)
        self.assertEqual((read_so_far, state, word), (table, ("row", ""), None))


class RowByRow(Writing):
    def outcome(self, dialect, table):
        try:
            return len(shortest(dialect, table))
        except NoWriting as lacking:
            return (lacking.row, lacking.cell)

    def test_rows_are_written_one_by_one(self):
        chance = random.Random(12)
        rows = [[""], ["a"], [",", ""], ["'"], ["a'", " b"], ["", "\n"], [" ", ",'"], ["^", "^a"], ["\""]]
        for told in SMALL:
            dialect = Dialect(*told)
            alone = [self.outcome(dialect, [row]) for row in rows]
            for again in range(4):
                some = [chance.randrange(len(rows)) for row in range(3)]
                lacking = [(place, alone[row][1]) for place, row in enumerate(some) if isinstance(alone[row], tuple)]
                wanted = lacking[0] if lacking else sum(alone[row] for row in some)
                self.assertEqual(self.outcome(dialect, [rows[row] for row in some]), wanted, (told, some))

    def test_cells_do_not_hang_on_one_another(self):
        for told in SMALL:
            dialect = Dialect(*told)
            cells = ["", "a", "'", ",", " ", "\n", "a'", ",^", " \""]
            parted = {cell: self.outcome(dialect, [[cell, ""]]) for cell in cells}
            last = {cell: self.outcome(dialect, [[cell]]) for cell in cells}
            for place, one in enumerate(cells):
                for other in cells:
                    row = [one, other, cells[place - 3]]
                    lacks = [isinstance(parted[one], tuple), isinstance(parted[other], tuple),
                             isinstance(last[row[2]], tuple)]
                    answer = self.outcome(dialect, [row])
                    if True in lacks:
                        self.assertEqual(answer, (0, lacks.index(True)), (told, row))
                    else:
                        self.assertIsInstance(answer, int, (told, row))


class AskersOwn(Writing):
    def test_what_is_handed_in_stays(self):
        for table in ([["a", "b,"], [""]], [["a"], ["'"]], [["a"], []]):
            before = copy.deepcopy(table)
            for again in range(2):
                try:
                    shortest(QUOTING, table)
                except (NoWriting, NoTable):
                    pass
                self.assertEqual(table, before)

    def test_changed_behind(self):
        table = [["a", "b"], ["c"]]
        self.assertEqual(shortest(PLAIN, table), "a,b\nc\n")
        table[0][1] = "xy"
        table.append(["d"])
        self.assertEqual(shortest(PLAIN, table), "a,xy\nc\nd\n")
        self.assertEqual(shortest(PLAIN, [["a", "b"], ["c"]]), "a,b\nc\n")
        table[2][0] = ","
        self.lacks(PLAIN, table, 2, 0)


class NoTables(unittest.TestCase):
    def test_whatever_is_no_table(self):
        for dialect in (PLAIN, Dialect(",", "'", "'", True, True, True, True)):
            for thing in things_but_tables():
                with self.assertRaises(DialectError, msg=repr(thing)[:80]) as caught:
                    shortest(dialect, thing)
                self.assertIs(caught.exception.__class__, NoTable)

    def test_ahead_of_what_can_not_be_written(self):
        for thing in ([["a,b"], []], [[","], ["%"]], [["'", "\t"]], [[","]] * 61, [[LINE] * 21], [[","] * 20] * 21):
            with self.assertRaises(DialectError) as caught:
                shortest(PLAIN, thing)
            self.assertIs(caught.exception.__class__, NoTable)


if __name__ == "__main__":
    unittest.main()
