import copy
import random
import unittest

from dialecthall.dialects import Dialect
from dialecthall.pairs import is_alike, is_parted, signs_for
from tests.helper import (LINE, NO_SIGNS, SMALL, Anything, all_texts, model_alike, model_length, model_pairs,
                          model_states, model_table, signs_of_two, some_told, things_but_lists, things_but_texts)

ROW, CELL, PLAIN, BEHIND, FREED = ("row", ""), ("cell", ""), ("plain", ""), ("behind", ""), ("freed", "")
COMMA = Dialect(",")
SEMI = Dialect(";")
QUOTING = Dialect(",", "'")
SHOWN = [(ROW, ROW), (CELL, CELL), (PLAIN, PLAIN)]


class SignsFor(unittest.TestCase):
    def test_one_dialect(self):
        self.assertEqual(signs_for([Dialect(",")]), ",\n a")
        self.assertEqual(signs_for([Dialect(",;", "',", "^")]), ",;'^\n a")
        self.assertEqual(signs_for([Dialect(";,", "\"'", "^\\")]), ";,\"'^\\\n a")

    def test_two_dialects(self):
        self.assertEqual(signs_for([Dialect(",", "'"), Dialect(";", "\"", ",")]), ",';\"\n a")
        self.assertEqual(signs_for([Dialect(";", "\"", ","), Dialect(",", "'")]), ";\",'\n a")
        self.assertEqual(signs_for([Dialect(","), Dialect(",")]), ",\n a")

    def test_a_blank_with_a_role(self):
        self.assertEqual(signs_for([Dialect(", ", "'")]), ", '\na")
        self.assertEqual(signs_for([Dialect(","), Dialect(",", " ")]), ", \na")

    def test_the_first_other_sign(self):
        self.assertEqual(signs_for([Dialect("a")]), "a\n b")
        self.assertEqual(signs_for([Dialect("b"), Dialect("c", "a")]), "bca\n d")
        self.assertEqual(signs_for([Dialect("abc", "de", "fg"), Dialect("hij", "kl", "mn")]), "abcdefghijklmn\n o")
        self.assertEqual(signs_for([Dialect("nml", "kj", "ih"), Dialect("gfe", "dc", "ba")]), "nmlkjihgfedcba\n o")
        self.assertEqual(signs_for([Dialect("A", "0")]), "A0\n a")

    def test_each_sign_once(self):
        for one in SMALL[::7]:
            for other in SMALL[::11]:
                signs = signs_for([Dialect(*one), Dialect(*other)])
                self.assertEqual(signs, signs_of_two(one, other))
                self.assertEqual(len(set(signs)), len(signs))

    def test_what_is_handed_in_stays_and_by_name(self):
        dialects = [COMMA, SEMI]
        self.assertEqual(signs_for(dialects=dialects), ",;\n a")
        self.assertEqual(dialects, [COMMA, SEMI])


class IsAlike(unittest.TestCase):
    def yes(self, one, other, pairs):
        self.assertIs(is_alike(one, other, pairs), True, (one.told(), other.told(), repr(pairs)))

    def no(self, one, other, pairs):
        self.assertIs(is_alike(one, other, pairs), False, (one.told(), other.told(), repr(pairs)))

    def test_ordinary_pairs(self):
        self.yes(COMMA, COMMA, SHOWN)
        self.yes(COMMA, Dialect(",", twin=True, wide=True, stray=True), SHOWN)
        self.yes(Dialect(",;"), Dialect(";,"), SHOWN)
        self.no(COMMA, SEMI, SHOWN)
        self.no(COMMA, Dialect(",", thin=True), SHOWN)
        self.no(COMMA, QUOTING, SHOWN)

    def test_any_order_and_some_more_than_once(self):
        chance = random.Random(31)
        for again in range(6):
            pairs = SHOWN * 3
            chance.shuffle(pairs)
            self.yes(COMMA, COMMA, pairs)
        self.yes(COMMA, COMMA, SHOWN[::-1])

    def test_one_left_out(self):
        for place in range(len(SHOWN)):
            self.no(COMMA, COMMA, SHOWN[:place] + SHOWN[place + 1:])
        self.no(COMMA, COMMA, [])

    def test_start_left_out(self):
        self.no(Dialect("a", "a", "a"), Dialect("a", "a", "a"), [])
        self.no(COMMA, COMMA, [(CELL, CELL), (PLAIN, PLAIN)])

    def test_pairs_to_which_no_text_leads(self):
        self.yes(COMMA, COMMA, SHOWN + [(BEHIND, BEHIND)])
        self.yes(COMMA, COMMA, SHOWN + [(FREED, FREED)])
        # At the beginning of a cell and in a plain one nothing is unlike where nothing quotes.
        self.yes(COMMA, COMMA, SHOWN + [(CELL, PLAIN), (PLAIN, CELL)])
        self.yes(QUOTING, QUOTING, model_pairs(QUOTING.told(), QUOTING.told()) + [(FREED, FREED)])
        self.no(QUOTING, QUOTING, model_pairs(QUOTING.told(), QUOTING.told()) + [(CELL, PLAIN)])
        self.no(COMMA, COMMA, SHOWN + [(PLAIN, BEHIND)])
        self.no(COMMA, COMMA, SHOWN + [(FREED, PLAIN)])

    def test_row_beside_another_state(self):
        self.no(COMMA, COMMA, SHOWN + [(ROW, CELL)])
        self.no(COMMA, COMMA, SHOWN + [(CELL, ROW)])
        self.no(COMMA, COMMA, SHOWN + [(PLAIN, ROW)])

    def test_kinds_count(self):
        # With the blank dropped or put both may go on, but not by steps of one kind.
        thin = Dialect(",", thin=True)
        self.no(COMMA, thin, SHOWN + [(PLAIN, CELL), (CELL, PLAIN), (PLAIN, ROW)])
        self.no(COMMA, Dialect(",;"), SHOWN + [(PLAIN, CELL), (CELL, PLAIN)])

    def test_states_that_are_none_of_the_dialects(self):
        for state in (("within", "'"), ("doubt", "'"), ("freed", "'"), ("within", ""), ("doubt", ""), ("row", "'"),
                      ("Row", ""), ("", ""), ("plain", ","), ("within", "'\"")):
            self.no(COMMA, COMMA, SHOWN + [(state, state)])
            self.no(COMMA, COMMA, SHOWN + [(PLAIN, state)])
            self.no(COMMA, COMMA, SHOWN + [(state, PLAIN)])
        other = Dialect(",", "\"")
        for state in (("within", "'"), ("doubt", "'"), ("freed", "'")):
            self.no(other, other, model_pairs(other.told(), other.told()) + [(state, state)])

    def test_states_of_one_dialect_alone(self):
        one, other = Dialect(",'", "'", "'"), Dialect(",'", "", "'")
        pairs = model_pairs(one.told(), other.told())
        self.yes(one, other, pairs)
        self.yes(one, other, pairs + [(BEHIND, BEHIND)])
        self.no(one, other, pairs + [(BEHIND, ("doubt", "'"))])

    def test_states_that_are_not_live(self):
        dialect = Dialect(",", "'", "'")
        pairs = model_pairs(dialect.told(), dialect.told())
        self.yes(dialect, dialect, pairs)
        for state in (("within", "'"), ("freed", "'")):
            self.no(dialect, dialect, pairs + [(state, state)])
            self.no(dialect, dialect, pairs + [(FREED, state)])
            self.no(dialect, dialect, pairs + [(state, FREED)])

    def test_coming_to_where_none_leads_back_is_like_failing(self):
        # In doubt, which is live, the quote leads to within, which is not; behind closed quotes it fails.
        dialect = Dialect(",", "'", "'")
        pairs = model_pairs(dialect.told(), dialect.told())
        doubt = ("doubt", "'")
        self.yes(dialect, dialect, pairs + [(doubt, doubt)])
        self.yes(dialect, dialect, pairs + [(doubt, BEHIND)])
        self.yes(dialect, dialect, pairs + [(BEHIND, doubt)])
        self.no(dialect, dialect, pairs + [(PLAIN, doubt)])
        parting = Dialect(",'", "'", "'")
        pairs = model_pairs(parting.told(), parting.told())
        self.yes(parting, parting, pairs + [(doubt, doubt), (BEHIND, BEHIND)])
        self.no(parting, parting, pairs + [(doubt, BEHIND)])
        self.no(parting, parting, pairs + [(BEHIND, doubt)])

    def test_other_things(self):
        for thing in things_but_lists() + [tuple(SHOWN), {pair: True for pair in SHOWN}, set(SHOWN), iter(SHOWN)]:
            self.no(COMMA, COMMA, thing)

    def test_other_things_in_the_place_of_a_pair(self):
        things = things_but_texts() + ["", "ab", Anything(), [ROW, ROW], [list(ROW), list(ROW)],
                                       (list(ROW), list(ROW)), (ROW,), (ROW, ROW, ROW), (), ROW, ((ROW, ROW),),
                                       ((ROW, ROW), (ROW, ROW)), ("row", "row"), (ROW, "row"), (("row",), ROW),
                                       (ROW, ("row", "", ""))]
        for thing in things:
            self.no(COMMA, COMMA, SHOWN + [thing])
            self.no(COMMA, COMMA, [thing] + SHOWN)
            self.no(COMMA, COMMA, [thing])

    def test_other_things_in_the_place_of_a_state(self):
        for thing in things_but_texts() + ["row", "", ["row", ""], ("row",), ("row", "", ""), Anything()]:
            self.no(COMMA, COMMA, SHOWN + [(thing, PLAIN)])
            self.no(COMMA, COMMA, SHOWN + [(PLAIN, thing)])
            self.no(COMMA, COMMA, SHOWN + [(thing, thing)])
        for thing in things_but_texts() + [Anything()]:
            self.no(COMMA, COMMA, SHOWN + [((thing, ""), PLAIN)])
            self.no(COMMA, COMMA, SHOWN + [(PLAIN, ("plain", thing))])

    def test_a_list_within_itself(self):
        ring = list(SHOWN)
        ring.append(ring)
        self.no(COMMA, COMMA, ring)

    def test_against_the_model(self):
        chance = random.Random(32)
        for one in SMALL[::3]:
            for other in (one, one[:3] + one[3:5] + (not one[5],) + one[6:], some_told(chance)):
                pairs = model_pairs(one, other)
                live = [(first, second) for first in model_states(one) for second in model_states(other)
                        if model_length(one, first) is not None and model_length(other, second) is not None]
                for some in (pairs, pairs[1:], pairs[:-1], pairs + [chance.choice(live)], pairs + live[::5],
                             [pair for pair in pairs if chance.random() < 0.9]):
                    self.assertIs(is_alike(Dialect(*one), Dialect(*other), some), model_alike(one, other, some),
                                  (one, other, some))

    def test_what_is_handed_in_stays(self):
        pairs = SHOWN + [SHOWN[0]]
        before = copy.deepcopy(pairs)
        self.yes(COMMA, COMMA, pairs)
        self.assertEqual(pairs, before)
        pairs.pop(0)
        pairs.pop()
        self.no(COMMA, COMMA, pairs)

    def test_by_name(self):
        self.assertIs(is_alike(one=COMMA, other=COMMA, pairs=SHOWN), True)


class IsParted(unittest.TestCase):
    def yes(self, one, other, text):
        self.assertIs(is_parted(one, other, text), True, (one.told(), other.told(), text))
        self.assertIs(is_parted(other, one, text), True, (one.told(), other.told(), text))

    def no(self, one, other, text):
        self.assertIs(is_parted(one, other, text), False, (one.told(), other.told(), repr(text)))
        self.assertIs(is_parted(other, one, text), False, (one.told(), other.told(), repr(text)))

    def test_one_reads_it_and_the_other_does_not(self):
        self.yes(COMMA, QUOTING, "a'\n")
        self.yes(COMMA, QUOTING, "'\n'\n")
        self.yes(Dialect(",", thin=True), COMMA, " ")

    def test_both_read_it_as_unlike_tables(self):
        self.yes(COMMA, SEMI, "a,b\n")
        self.yes(QUOTING, COMMA, "'a'\n")
        self.yes(COMMA, Dialect(", "), " \n")

    def test_both_read_it_alike(self):
        self.no(COMMA, SEMI, "a\n")
        self.no(COMMA, SEMI, "")
        self.no(QUOTING, Dialect(",", "", "'"), LINE)
        self.no(QUOTING, QUOTING, "'a',b\n")

    def test_all_failings_are_alike(self):
        self.no(COMMA, SEMI, "a")
        self.no(QUOTING, COMMA, "a'")
        self.no(QUOTING, Dialect(",", "a"), "a'b\n")
        self.no(QUOTING, Dialect(",", "'", wide=True), "'\n")

    def test_the_table_without_rows_is_no_failing(self):
        self.yes(Dialect(",", thin=True), Dialect(","), "  ")
        self.no(Dialect(",", thin=True), Dialect(";", thin=True), "  ")

    def test_whatever_is_no_text(self):
        for thing in things_but_texts():
            self.no(COMMA, SEMI, thing)
        for sign in NO_SIGNS:
            self.no(COMMA, SEMI, "a,b" + sign + LINE)

    def test_2000_and_2001_signs(self):
        self.yes(COMMA, SEMI, "a,b\n" * 500)
        self.no(COMMA, SEMI, "a,b\n" * 500 + LINE)
        self.no(COMMA, SEMI, "a,b\n" * 501)

    def test_against_the_model(self):
        chance = random.Random(33)
        for again in range(150):
            one, other = some_told(chance), some_told(chance)
            for text in all_texts(",'^a \n", 3):
                wanted = model_table(one, text) != model_table(other, text)
                self.assertIs(is_parted(Dialect(*one), Dialect(*other), text), wanted, (one, other, text))

    def test_asked_again_and_by_name(self):
        for again in range(2):
            self.assertIs(is_parted(one=COMMA, other=SEMI, text="a,b\n"), True)
            self.no(COMMA, SEMI, None)


if __name__ == "__main__":
    unittest.main()
