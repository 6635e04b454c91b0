import itertools
import unittest

from dialecthall.dialects import Dialect
from dialecthall.states import states_of
from dialecthall.turns import Turn
from tests.helper import LINE, SIGNS, TRUTHS, model_states, model_step

ROW, CELL, PLAIN, BEHIND, FREED = ("row", ""), ("cell", ""), ("plain", ""), ("behind", ""), ("freed", "")
END, PART, TO_PLAIN, TO_FREED = ("end", ROW), ("part", CELL), ("put", PLAIN), ("skip", FREED)
QUOTE, NO_LINE, NO_BEHIND = ("fault", "quote"), ("fault", "line"), ("fault", "behind")


def within(quote):
    return ("within", quote)


def doubt(quote):
    return ("doubt", quote)


def freed(quote):
    return ("freed", quote)


class Rules(unittest.TestCase):
    def steps(self, dialect, state, wanted):
        turn = Turn(dialect)
        for sign, step in wanted.items():
            answer = turn.step(state, sign)
            self.assertEqual(answer, step, (dialect.told(), state, sign))
            self.assertIsInstance(answer, tuple)


class AtTheBeginning(Rules):
    def test_ordinary_signs(self):
        for state in (ROW, CELL):
            self.steps(Dialect(",", "'", "^"), state, {
                "^": TO_FREED, LINE: END, "'": ("skip", within("'")), ",": PART, " ": TO_PLAIN, "a": TO_PLAIN,
                "\"": TO_PLAIN})

    def test_several_signs_of_a_text(self):
        for state in (ROW, CELL):
            self.steps(Dialect(",;|", "'\"", "^\\"), state, {
                ",": PART, ";": PART, "|": PART, "'": ("skip", within("'")), "\"": ("skip", within("\"")),
                "^": TO_FREED, "\\": TO_FREED, "a": TO_PLAIN, LINE: END})

    def test_thin(self):
        for state in (ROW, CELL):
            self.steps(Dialect(",", "'", "^", thin=True), state, {" ": ("skip", state), "a": TO_PLAIN, ",": PART})
            self.steps(Dialect(",", thin=False), state, {" ": TO_PLAIN})

    def test_twin_wide_and_stray_mean_nothing_here(self):
        for twin, wide, thin, stray in TRUTHS:
            for state in (ROW, CELL):
                self.steps(Dialect(",", "'", "^", twin, wide, thin, stray), state, {
                    "^": TO_FREED, LINE: END, "'": ("skip", within("'")), ",": PART, "a": TO_PLAIN,
                    " ": ("skip", state) if thin else TO_PLAIN})

    def test_two_or_three_roles(self):
        for state in (ROW, CELL):
            for truths in TRUTHS:
                self.steps(Dialect(",", "'", "'", *truths), state, {"'": TO_FREED})
                self.steps(Dialect(",", ",", "", *truths), state, {",": ("skip", within(","))})
                self.steps(Dialect(",", "", ",", *truths), state, {",": TO_FREED})
                self.steps(Dialect("a", "a", "a", *truths), state, {"a": TO_FREED, LINE: END})

    def test_a_blank_with_a_role(self):
        for state in (ROW, CELL):
            for truths in TRUTHS:
                self.steps(Dialect(" ", "'", "^", *truths), state, {" ": PART})
                self.steps(Dialect(", ", "'", "^", *truths), state, {" ": PART})
                self.steps(Dialect(",", " ", "^", *truths), state, {" ": ("skip", within(" "))})
                self.steps(Dialect(",", "'", " ", *truths), state, {" ": TO_FREED})
                self.steps(Dialect(" ", " ", "", *truths), state, {" ": ("skip", within(" "))})
                self.steps(Dialect(" ", " ", " ", *truths), state, {" ": TO_FREED})


class InPlain(Rules):
    def test_ordinary_signs(self):
        self.steps(Dialect(",;", "'\"", "^\\"), PLAIN, {
            "^": TO_FREED, "\\": TO_FREED, LINE: END, ",": PART, ";": PART, "'": QUOTE, "\"": QUOTE, "a": TO_PLAIN,
            " ": TO_PLAIN})

    def test_stray(self):
        self.steps(Dialect(",", "'\"", stray=True), PLAIN, {"'": TO_PLAIN, "\"": TO_PLAIN})
        self.steps(Dialect(",", "'\"", "", True, True, True, False), PLAIN, {"'": QUOTE, "\"": QUOTE})

    def test_a_blank_is_not_dropped(self):
        for truths in TRUTHS:
            self.steps(Dialect(",", "'", "^", *truths), PLAIN, {" ": TO_PLAIN})
            self.steps(Dialect(", ", "'", "^", *truths), PLAIN, {" ": PART})

    def test_two_or_three_roles(self):
        for truths in TRUTHS:
            self.steps(Dialect(",", "'", "'", *truths), PLAIN, {"'": TO_FREED})
            self.steps(Dialect(",", ",", "", *truths), PLAIN, {",": PART})
            self.steps(Dialect(",", "", ",", *truths), PLAIN, {",": TO_FREED})
            self.steps(Dialect("a", "a", "a", *truths), PLAIN, {"a": TO_FREED, LINE: END})
            self.steps(Dialect(",", " ", "", *truths), PLAIN, {" ": TO_PLAIN if truths[3] else QUOTE})

    def test_line_ends_the_row_also_where_wide(self):
        for truths in TRUTHS:
            self.steps(Dialect(",", "'", "^", *truths), PLAIN, {LINE: END})


class Within(Rules):
    def test_ordinary_signs(self):
        state = within("'")
        self.steps(Dialect(",", "'\"", "^"), state, {
            "^": ("skip", freed("'")), "'": ("skip", BEHIND), LINE: NO_LINE, ",": ("put", state),
            "\"": ("put", state), " ": ("put", state), "a": ("put", state)})

    def test_each_quote_has_its_own(self):
        self.steps(Dialect(",", "'\"", "^", True), within("\""), {
            "^": ("skip", freed("\"")), "\"": ("skip", doubt("\"")), "'": ("put", within("\""))})

    def test_twin(self):
        self.steps(Dialect(",", "'", twin=True), within("'"), {"'": ("skip", doubt("'"))})
        self.steps(Dialect(",", "'", "", False, True, True, True), within("'"), {"'": ("skip", BEHIND)})

    def test_wide(self):
        self.steps(Dialect(",", "'", wide=True), within("'"), {LINE: ("put", within("'"))})
        self.steps(Dialect(",", "'", "", True, False, True, True), within("'"), {LINE: NO_LINE})

    def test_thin_and_stray_mean_nothing_here(self):
        for twin, wide, thin, stray in TRUTHS:
            self.steps(Dialect(",", "'\"", "^", twin, wide, thin, stray), within("'"), {
                " ": ("put", within("'")), "\"": ("put", within("'")), ",": ("put", within("'")),
                "'": ("skip", doubt("'") if twin else BEHIND), LINE: ("put", within("'")) if wide else NO_LINE})

    def test_two_or_three_roles(self):
        for truths in TRUTHS:
            closed = ("skip", doubt("'") if truths[0] else BEHIND)
            self.steps(Dialect(",", "'", "'", *truths), within("'"), {"'": ("skip", freed("'"))})
            self.steps(Dialect(",", "'\"", "\"", *truths), within("'"), {"\"": ("skip", freed("'")), "'": closed})
            self.steps(Dialect("',", "'", "", *truths), within("'"), {"'": closed, ",": ("put", within("'"))})
            self.steps(Dialect(",", "'", ",", *truths), within("'"), {",": ("skip", freed("'"))})
            self.steps(Dialect("a", "a", "a", *truths), within("a"), {"a": ("skip", freed("a"))})
            self.steps(Dialect(" ", "'", "", *truths), within("'"), {" ": ("put", within("'"))})
            self.steps(Dialect(",", " ", "", *truths), within(" "), {
                " ": ("skip", doubt(" ") if truths[0] else BEHIND)})
            self.steps(Dialect(",", "'", " ", *truths), within("'"), {" ": ("skip", freed("'"))})


class DoubtAndBehind(Rules):
    def test_ordinary_signs(self):
        for state in (BEHIND, doubt("'"), doubt("\"")):
            self.steps(Dialect(",;", "'\"", "^", True), state, {
                LINE: END, ",": PART, ";": PART, " ": NO_BEHIND, "a": NO_BEHIND, "^": NO_BEHIND})

    def test_the_quote(self):
        for truths in TRUTHS:
            dialect = Dialect(",", "'\"", "^", *truths)
            self.steps(dialect, doubt("'"), {"'": ("put", within("'")), "\"": NO_BEHIND})
            self.steps(dialect, doubt("\""), {"\"": ("put", within("\"")), "'": NO_BEHIND})
            self.steps(dialect, BEHIND, {"'": NO_BEHIND, "\"": NO_BEHIND})

    def test_thin(self):
        for truths in TRUTHS:
            for state in (BEHIND, doubt("'")):
                self.steps(Dialect(",", "'", "^", *truths), state, {
                    " ": ("skip", BEHIND) if truths[2] else NO_BEHIND, "a": NO_BEHIND, LINE: END, ",": PART})

    def test_a_freeing_sign_frees_nothing(self):
        for truths in TRUTHS:
            for state in (BEHIND, doubt("'")):
                self.steps(Dialect(",", "'", "^\\", *truths), state, {"^": NO_BEHIND, "\\": NO_BEHIND})
                self.steps(Dialect(",", "'", ",", *truths), state, {",": PART})
                self.steps(Dialect(",", "'", " ", *truths), state, {
                    " ": ("skip", BEHIND) if truths[2] else NO_BEHIND})

    def test_two_or_three_roles(self):
        for truths in TRUTHS:
            self.steps(Dialect(",'", "'", "", *truths), BEHIND, {"'": PART})
            self.steps(Dialect(",'", "'", "", *truths), doubt("'"), {"'": ("put", within("'")), ",": PART})
            self.steps(Dialect(",", "',", "", *truths), doubt("'"), {",": PART})
            self.steps(Dialect(",", "'", "'", *truths), BEHIND, {"'": NO_BEHIND})
            self.steps(Dialect(",", "'", "'", *truths), doubt("'"), {"'": ("put", within("'"))})
            self.steps(Dialect("a", "a", "a", *truths), BEHIND, {"a": PART})
            self.steps(Dialect("a", "a", "a", *truths), doubt("a"), {"a": ("put", within("a"))})

    def test_a_blank_with_a_role(self):
        for truths in TRUTHS:
            for state in (BEHIND, doubt("'")):
                self.steps(Dialect(", ", "'", "", *truths), state, {" ": PART})
            self.steps(Dialect(",", " ", "", *truths), doubt(" "), {" ": ("put", within(" "))})
            self.steps(Dialect(",", " ", "", *truths), BEHIND, {" ": ("skip", BEHIND) if truths[2] else NO_BEHIND})
            self.steps(Dialect(",", "' ", "", *truths), doubt("'"), {
                " ": ("skip", BEHIND) if truths[2] else NO_BEHIND})


class Freed(Rules):
    def test_every_sign_is_put(self):
        for truths in TRUTHS:
            for sign in SIGNS:
                for told in ((",;", "'\"", "^\\"), ("a", "a", "a"), (" ", "'", " "), (",", "',", "'")):
                    dialect = Dialect(*told, *truths)
                    line = sign == LINE and not truths[1]
                    self.steps(dialect, FREED, {sign: NO_LINE if line else TO_PLAIN})
                    for quote in told[1]:
                        self.steps(dialect, freed(quote), {sign: NO_LINE if line else ("put", within(quote))})

    def test_wide(self):
        self.steps(Dialect(",", "'", "^", wide=True), FREED, {LINE: TO_PLAIN})
        self.steps(Dialect(",", "'", "^", wide=True), freed("'"), {LINE: ("put", within("'"))})
        self.steps(Dialect(",", "'", "^", True, False, True, True), FREED, {LINE: NO_LINE})
        self.steps(Dialect(",", "'", "^", True, False, True, True), freed("'"), {LINE: NO_LINE})


class AllTogether(unittest.TestCase):
    def compare(self, told, signs):
        dialect = Dialect(*told)
        turn = Turn(dialect)
        for state in model_states(told):
            for sign in signs:
                if turn.step(state, sign) != model_step(told, state, sign):
                    self.fail((told, state, sign, turn.step(state, sign), model_step(told, state, sign)))

    def test_every_way_to_share_out_four_signs(self):
        def some(least, most):
            return ["".join(signs) for many in range(least, most + 1)
                    for signs in itertools.combinations(",'^ ", many)]
        for parts, quotes, frees in itertools.product(some(1, 3), some(0, 2), some(0, 2)):
            for truths in TRUTHS:
                self.compare((parts, quotes, frees) + truths, ",'^ a\n")

    def test_every_sign(self):
        for truths in TRUTHS:
            for told in ((",;|", "'\"", "^\\"), ("a ", "b1", "Z~"), ("'", "',", ",")):
                self.compare(told + truths, SIGNS)

    def test_the_order_of_signs_means_nothing(self):
        for truths in TRUTHS:
            one, other = Turn(Dialect(",; ", "'\"", "^'", *truths)), Turn(Dialect(" ;,", "\"'", "'^", *truths))
            for state in states_of(Dialect(",", "'\"")):
                for sign in SIGNS:
                    self.assertEqual(one.step(state, sign), other.step(state, sign))


class Asking(unittest.TestCase):
    def test_in_any_order_and_again(self):
        told = (",", "'\"", "^", True, False, True, False)
        turn = Turn(Dialect(*told))
        asked = [(state, sign) for state in model_states(told) for sign in ",'\"^ a\n"]
        for state, sign in asked + asked[::-1] + asked[::7] + asked:
            self.assertEqual(turn.step(state, sign), model_step(told, state, sign))

    def test_two_turns_do_not_hang_together(self):
        one, other = Turn(Dialect(",", "'", twin=True)), Turn(Dialect("'", ",", stray=True))
        for again in range(2):
            self.assertEqual(one.step(ROW, ","), PART)
            self.assertEqual(other.step(ROW, ","), ("skip", within(",")))
            self.assertEqual(one.step(within("'"), "'"), ("skip", doubt("'")))
            self.assertEqual(other.step(within(","), ","), ("skip", BEHIND))

    def test_by_name(self):
        self.assertEqual(Turn(dialect=Dialect(",")).step(state=ROW, sign=","), PART)

    def test_the_dialect_stays(self):
        dialect = Dialect(",;", "'", "^", True)
        turn = Turn(dialect)
        for sign in ",;'^ a\n":
            turn.step(ROW, sign)
        self.assertEqual(dialect.told(), (",;", "'", "^", True, False, False, False))


if __name__ == "__main__":
    unittest.main()
