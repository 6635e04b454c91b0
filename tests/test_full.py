import random
import unittest

from dialecthall.dialects import Dialect
from dialecthall.errors import NoWriting
from dialecthall.full import full
from dialecthall.signs import is_table
from dialecthall.writing import shortest
from tests.helper import LINE, SIGNS, SMALL, TRUTHS, model_states, model_step, model_writing, signs_that_tell


def cells_of(signs, many):
    """Each cell of just so many of these signs."""
    return [cell + sign for cell in cells_of(signs, many - 1) for sign in signs] if many else [""]


def rows_of(signs, many, cells):
    """Each row of so many cells with just so many signs together."""
    if cells == 1:
        return [[cell] for cell in cells_of(signs, many)]
    return [[cell] + row for first in range(many + 1) for cell in cells_of(signs, first)
            for row in rows_of(signs, many - first, cells - 1)]


def smaller_rows(signs, row):
    """Rows of fewer signs, of one to three cells, and of as many signs in fewer cells."""
    many = sum(len(cell) for cell in row)
    rows = [row for fewer in range(many) for cells in (1, 2, 3) for row in rows_of(signs, fewer, cells)]
    return rows + [row for cells in range(1, len(row)) for row in rows_of(signs, many, cells)]


def kinds_behind(told, states):
    """The states to which signs that put out nothing lead on, and the kinds of all steps from them."""
    states = set(states)
    for again in range(len(model_states(told))):
        steps = [model_step(told, state, sign) for state in states for sign in signs_that_tell(told)]
        states |= {behind for kind, behind in steps if kind == "skip"}
    return states, {kind for kind, behind in steps}


def writes_cells_of_any_length(told):
    """Whether behind each cell, whatever its length, a part and an end can be written: by all sets of states."""
    found = [frozenset([("row", "")])]
    for some in found:
        states, kinds = kinds_behind(told, some)
        if not {"part", "end"} <= kinds:
            return False
        for sign in signs_that_tell(told):
            steps = [model_step(told, state, sign) for state in states]
            behind = frozenset(state for kind, state in steps if kind == "put")
            if behind not in found:
                found.append(behind)
    return True


class Full(unittest.TestCase):
    def can_be_written(self, told, row):
        return model_writing(told, [row])[0] == "text"

    def check(self, told):
        table = full(Dialect(*told))
        signs = signs_that_tell(told)
        self.assertEqual(table is None, writes_cells_of_any_length(told), (told, table))
        if table is None:
            for row in smaller_rows(signs, ["aaa"]):
                self.assertTrue(self.can_be_written(told, row), (told, row))
            return None
        self.assertIsInstance(table, list)
        self.assertTrue(is_table(table), (told, table))
        self.assertEqual(len(table), 1, (told, table))
        self.assertFalse(self.can_be_written(told, table[0]), (told, table))
        self.assertRaises(NoWriting, shortest, Dialect(*told), table)
        for row in smaller_rows(signs, table[0]):
            self.assertTrue(self.can_be_written(told, row), (told, table, row))
        return table

    def test_the_documents_example(self):
        self.assertIn(full(Dialect(",")), ([[LINE]], [[","]]))
        for truths in TRUTHS:
            blank = [[[" "]]] if truths[2] else []
            self.assertIn(full(Dialect(",", "", "", *truths)), [[[LINE]], [[","]]] + blank)

    def test_dialects_that_write_every_table(self):
        for dialect in (Dialect(",", "'", twin=True, wide=True), Dialect(",", "", "^", wide=True),
                        Dialect(",", "'", "^", wide=True), Dialect(",;|", "'\"", "^\\", True, True, True, True),
                        Dialect(",", "'", "^", wide=True, thin=True), Dialect(",", "'", ",", wide=True),
                        Dialect(" ", "'", twin=True, wide=True, thin=True), Dialect(",", "'", "'", wide=True)):
            self.assertIsNone(full(dialect), dialect.told())
            self.check(dialect.told())

    def test_what_one_sign_shows(self):
        self.assertEqual(full(Dialect(",", "'", wide=True)), [["'"]])
        self.assertEqual(full(Dialect(",", "'", twin=True)), [[LINE]])
        self.assertEqual(full(Dialect(",", "", "^")), [[LINE]])
        self.assertEqual(full(Dialect(",", "'", "^")), [[LINE]])
        self.assertIn(full(Dialect(",", "'")), ([[LINE]], [["'"]]))

    def test_two_cells_without_signs(self):
        for told in (("a", "a", "a"), (",", "", ","), (",;", "", ";,"), (",", "'", ",'"), (",'", "'", "',")):
            for truths in TRUTHS:
                self.assertEqual(full(Dialect(*told, *truths)), [["", ""]], (told, truths))

    def test_two_signs_in_one_cell(self):
        for told in ((",", "'\"", "", False, True, False, False), ("a", "ab", "", False, True, True, False)):
            table = self.check(told)
            self.assertEqual([len(cell) for cell in table[0]], [2], (told, table))

    def test_small_dialects(self):
        for told in SMALL:
            self.check(told)

    def test_other_dialects(self):
        chance = random.Random(13)
        for again in range(300):
            signs = chance.choice(["ab ", ",'^", ",'^ ", "ab"])
            parts, quotes, frees = [chance.sample(signs, chance.randint(least, min(most, len(signs))))
                                    for least, most in ((1, 3), (0, 2), (0, 2))]
            truths = chance.choice(TRUTHS)
            self.check(("".join(parts), "".join(quotes), "".join(frees)) + truths)

    def test_a_dialect_that_lacks_nothing_writes_long_cells_of_all_signs(self):
        chance = random.Random(14)
        for told in SMALL:
            if full(Dialect(*told)) is None:
                signs = chance.choice([SIGNS, signs_that_tell(told)])
                table = [["".join(chance.choice(signs) for sign in range(30)) for cell in range(3)], [SIGNS, ""]]
                self.assertEqual(model_writing(told, table)[0], "text", (told, table))
                self.assertIsInstance(shortest(Dialect(*told), table), str)

    def test_what_is_told_is_the_askers_own(self):
        for dialect in (Dialect("a", "a", "a"), Dialect(",", "'", wide=True)):
            first, second = full(dialect), full(dialect)
            kept = [list(row) for row in second]
            first[0].append("x")
            first[0][0] = "y"
            first.append(["z"])
            self.assertEqual(second, kept)
            self.assertEqual(full(dialect), kept)

    def test_the_dialect_stays_and_by_name(self):
        dialect = Dialect(",;", "'", "^", wide=True)
        self.assertIsNone(full(dialect=dialect))
        self.assertEqual(dialect.told(), (",;", "'", "^", False, True, False, False))


if __name__ == "__main__":
    unittest.main()
