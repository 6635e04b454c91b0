import copy
import random
import unittest

from dialecthall.dialects import Dialect
from dialecthall.papers import is_none, is_sole
from dialecthall.sole import sole
from tests.helper import (LINE, NO_SIGNS, SMALL, Anything, about, all_texts, model_good, model_leads, model_length,
                          model_sole, model_states, model_table, model_tokens, some_told, things_but_lists,
                          things_but_texts, turned)

NONE = (False, False, False, False)
ROW, CELL, PLAIN_STATE, BEHIND, FREED = ("row", ""), ("cell", ""), ("plain", ""), ("behind", ""), ("freed", "")
PLAIN = Dialect(",")
SEMI = Dialect(";")
QUOTING = Dialect(",", "'")
TABLE = [["a"]]
FIRST = (ROW, 0, ((ROW, 0),))
MIDDLE = (PLAIN_STATE, 1, ((PLAIN_STATE, 1),))
LAST = (ROW, 2, ((ROW, 2),))
SHOWN = [FIRST, MIDDLE, LAST]


def model_none(told, table, others, places):
    """Point 75 for a list of places, by the steps of the model."""
    if (ROW, 0, ((ROW, 0),) * len(others)) not in places:
        return False
    for place in places:
        if model_good(table, place) or any(lead not in places for lead in model_leads(told, table, others, place)):
            return False
    return True


def live_marks(told, table):
    states = [state for state in model_states(told) if model_length(told, state) is not None]
    return [(state, count) for state in states for count in range(len(model_tokens(table)) + 1)]


class IsNone(unittest.TestCase):
    def yes(self, places, dialect=PLAIN, table=TABLE, others=(SEMI,)):
        self.assertIs(is_none(dialect, table, list(others), places), True, repr(places))

    def no(self, places, dialect=PLAIN, table=TABLE, others=(SEMI,)):
        self.assertIs(is_none(dialect, table, list(others), places), False, repr(places))


class Ordinary(IsNone):
    def test_what_is_told(self):
        self.yes(SHOWN)
        self.yes(sole(PLAIN, TABLE, [SEMI], 4000)[1])
        self.yes(SHOWN, others=[QUOTING])
        self.no(SHOWN, others=[Dialect("a")])
        self.no(SHOWN, dialect=Dialect(",", thin=True))
        self.yes(SHOWN, table=[["b"]])
        self.no(SHOWN, table=[["ab"]])

    def test_no_others(self):
        # A row with a comma in a cell can't be written by this dialect.
        self.yes([(ROW, 0, ())], table=[[","]], others=[])
        self.yes([(ROW, 0, ()), (PLAIN_STATE, 1, ())], table=[["a,"]], others=[])
        self.no([(ROW, 0, ())], table=[["a,"]], others=[])
        self.no([(ROW, 0, ()), (PLAIN_STATE, 1, ()), (ROW, 2, ())], others=[])
        self.no([(ROW, 0, ()), (PLAIN_STATE, 1, ())], others=[])
        self.no([(ROW, 0, ())], table=[], others=[])

    def test_the_table_without_rows(self):
        self.yes([FIRST], table=[])
        self.no([FIRST], dialect=Dialect(",", thin=True), table=[])
        self.yes([FIRST], dialect=Dialect(",", thin=True), table=[], others=[Dialect(";", thin=True)])
        self.no([], table=[])

    def test_three_others(self):
        others = [SEMI, Dialect(";,"), PLAIN]
        places = [(ROW, 0, ((ROW, 0),) * 3), (PLAIN_STATE, 1, ((PLAIN_STATE, 1),) * 3), (ROW, 2, ((ROW, 2),) * 3)]
        self.yes(places, others=others)
        self.no([place[:2] + (place[2][:2],) for place in places], others=others)
        self.no([place[:2] + (place[2] * 2,) for place in places], others=others)
        self.no(SHOWN, others=others)
        self.no(places)

    def test_any_order_and_some_more_than_once(self):
        chance = random.Random(75)
        for again in range(8):
            places = SHOWN * 3
            chance.shuffle(places)
            self.yes(places)
        self.yes(SHOWN[::-1])

    def test_any_one_left_out(self):
        for place in range(len(SHOWN)):
            self.no(SHOWN[:place] + SHOWN[place + 1:])
        self.no([])

    def test_the_first_place_left_out(self):
        # Nothing leads to the first place, so all else would hold.
        self.no([MIDDLE, LAST])
        self.no([LAST])
        self.no([(CELL, 0, ((CELL, 0),)), MIDDLE, LAST])

    def test_places_to_which_no_text_comes(self):
        self.yes(SHOWN + [(CELL, 0, ((CELL, 0),))])
        self.yes(SHOWN + [(BEHIND, 0, (None,))])
        self.yes(SHOWN + [(BEHIND, 2, ((BEHIND, 2),)), (FREED, 2, ((FREED, 2),))])
        self.no(SHOWN + [(FREED, 0, (None,))])
        self.no(SHOWN + [(CELL, 0, (None,))])

    def test_a_good_place_among_them(self):
        for marks in ((None,), ((ROW, 1),), ((CELL, 2),), ((PLAIN_STATE, 2),)):
            self.no(SHOWN + [(ROW, 2, marks)])
        self.no([(ROW, 2, (None,))] + SHOWN)
        self.yes(SHOWN + [(CELL, 2, (None,)), (PLAIN_STATE, 2, (None,))])

    def test_a_good_one_of_several_others(self):
        read, places = (ROW, 2), [(ROW, 0, ((ROW, 0),) * 2), (PLAIN_STATE, 1, ((PLAIN_STATE, 1),) * 2)]
        places.append((ROW, 2, (read, read)))
        self.yes(places, others=[SEMI, PLAIN])
        self.yes(places + [(ROW, 2, (None, read)), (ROW, 2, (read, None))], others=[SEMI, PLAIN])
        self.no(places + [(ROW, 2, (None, None))], others=[SEMI, PLAIN])
        self.no(places[:2] + [(ROW, 2, (None, None))], others=[SEMI, PLAIN])


class WhateverIsHandedIn(IsNone):
    def test_no_list(self):
        for thing in things_but_lists() + [tuple(SHOWN), dict.fromkeys(SHOWN), set(SHOWN), iter(SHOWN), Anything()]:
            self.no(thing)

    def test_other_things_in_the_place_of_a_place(self):
        for thing in things_but_texts() + ["", "abc", Anything(), list(FIRST), FIRST[:2], FIRST + (0,), (FIRST,),
                                           [FIRST], (FIRST, FIRST, FIRST), (ROW, 0, ROW, 0)]:
            self.no(SHOWN + [thing])
            self.no([thing] + SHOWN)
            self.no([thing])

    def test_places_that_are_lists(self):
        self.no([list(place) for place in SHOWN])
        self.no(SHOWN + [list(LAST)])

    def test_marks_that_are_no_tuple_or_of_another_length(self):
        for marks in [[(ROW, 2)], [None], (), ((ROW, 2), (ROW, 2)), (None, None), (ROW, 2), ROW, {0: None}, "a",
                      Anything()] + [thing for thing in things_but_texts() if thing != ()]:
            self.no(SHOWN + [(CELL, 2, marks)])
        self.yes(SHOWN + [(CELL, 2, (None,))])

    def test_other_things_in_the_place_of_a_mark(self):
        for thing in things_but_texts() + ["", "ab", Anything(), [ROW, 2], (ROW,), (ROW, 2, 2), (list(ROW), 2),
                                           (2, ROW), (None, 2), (None, None), ("row", 2), ((ROW, 2),)]:
            if thing is not None:
                self.no(SHOWN + [(CELL, 2, (thing,))])

    def test_states_that_are_none_or_not_live(self):
        for state in (("within", "'"), ("doubt", "'"), ("freed", "'"), ("within", ""), ("row", "'"), ("Row", ""),
                      ("", ""), ("plain",), ("plain", "", ""), ["cell", ""], "cell", None, Anything(), ("cell", None),
                      (Anything(), ""), ("cell", Anything()), 0):
            self.no(SHOWN + [(state, 2, (None,))])
            self.no(SHOWN + [(CELL, 2, ((state, 2),))])
        freeing = Dialect(",", "'", "'")
        shown = sole(freeing, TABLE, [freeing], 4000)[1]
        self.yes(shown, dialect=freeing, others=[freeing])
        self.yes(shown + [(("doubt", "'"), 2, (None,))], dialect=freeing, others=[freeing])
        for state in (("within", "'"), ("freed", "'")):
            self.no(shown + [(state, 2, (None,))], dialect=freeing, others=[freeing])
            self.no(shown + [(CELL, 2, ((state, 2),))], dialect=freeing, others=[freeing])

    def test_states_of_another_dialect(self):
        # The one quotes, the other does not.
        within = ("within", "'")
        shown = sole(PLAIN, TABLE, [QUOTING, PLAIN], 4000)[1]
        self.yes(shown, others=[QUOTING, PLAIN])
        self.yes(shown + [(CELL, 2, ((within, 2), None))], others=[QUOTING, PLAIN])
        self.no(shown + [(CELL, 2, (None, (within, 2)))], others=[QUOTING, PLAIN])
        self.no(shown + [(within, 2, (None, None))], others=[QUOTING, PLAIN])

    def test_counts(self):
        for count in (-1, 3, 4, 2 ** 70, True, False, 2.0, 0.0, "2", None, [2], (2,), Anything()):
            self.no(SHOWN + [(CELL, count, (None,))])
            self.no(SHOWN + [(CELL, 2, ((CELL, count),))])
        for count in (0, 1, 2):
            self.yes(SHOWN + [(CELL, 2, ((CELL, count),)), (BEHIND, 0, (None,))])
        # With these every place is like one of those that show it, but a truth is no whole number.
        self.no([(ROW, False, ((ROW, 0),)), MIDDLE, LAST])
        self.no([FIRST, (PLAIN_STATE, True, ((PLAIN_STATE, 1),)), LAST])
        self.no([FIRST, (PLAIN_STATE, 1, ((PLAIN_STATE, True),)), LAST])
        self.no([FIRST, MIDDLE, (ROW, 2.0, ((ROW, 2),))])
        self.no(SHOWN + [(ROW, False, ((ROW, 0),))])

    def test_a_list_within_itself(self):
        ring = list(SHOWN)
        ring.append(ring)
        self.no(ring)

    def test_what_is_handed_in_stays(self):
        places, table, others = SHOWN + [FIRST], copy.deepcopy(TABLE), [SEMI]
        before = copy.deepcopy(places)
        self.assertIs(is_none(PLAIN, table, others, places), True)
        self.assertEqual((places, table, others), (before, TABLE, [SEMI]))
        places.remove(MIDDLE)
        self.no(places)
        self.yes(before)

    def test_by_name(self):
        self.assertIs(is_none(places=SHOWN, others=[SEMI], table=TABLE, dialect=PLAIN), True)


class AgainstTheModel(IsNone):
    def test_told_places(self):
        chance = random.Random(76)
        seen = []
        for number, told in enumerate(SMALL):
            table = ([["a"]], [["", "'"]], [[","]], [["^", ""]])[number % 4]
            others = [turned(told, 3 + number % 4), about(told), turned(told, 6 - number % 4)][:1 + number // 7 % 3]
            length, places = model_sole(told, table, others)
            marks = [live_marks(each, table) for each in [told] + others]
            strange = [chance.choice(marks[0]) + (tuple(chance.choice(some + [None]) for some in marks[1:]),)
                       for place in range(3)]
            for some in (places, places[1:], places[:-1], places[::-1] + places[:2], places + strange[:1],
                         places + strange, [place for place in places if chance.random() < 0.9]):
                wanted = model_none(told, table, others, some)
                seen.append(wanted)
                self.assertIs(is_none(Dialect(*told), table, [Dialect(*other) for other in others], some), wanted,
                              (told, table, others, some))
        self.assertGreater(seen.count(True), 200)
        self.assertGreater(seen.count(False), 200)

    def test_any_one_of_the_told_left_out(self):
        for told in SMALL[::3]:
            table = [["a'"]]
            answer = sole(Dialect(*told), table, [Dialect(*turned(told, 5)), Dialect(*about(told))], 4000)
            self.assertEqual(answer[0], "none")
            others = [Dialect(*turned(told, 5)), Dialect(*about(told))]
            self.yes(answer[1], Dialect(*told), table, others)
            for place in range(len(answer[1])):
                self.no(answer[1][:place] + answer[1][place + 1:], Dialect(*told), table, others)

    def test_where_there_is_a_sole_text_no_list_shows_that_there_is_none(self):
        for told in SMALL[::5]:
            other = turned(told, 5)
            length, places = model_sole(told, [["a"]], [other])
            if length is not None:
                self.no(places, Dialect(*told), [["a"]], [Dialect(*other)])


class IsSole(unittest.TestCase):
    def asked(self, dialect, table, others, text):
        answer = is_sole(dialect, table, others, text)
        self.assertIn(answer, (True, False))
        self.assertIsInstance(answer, bool)
        return answer

    def test_ordinary_texts(self):
        self.assertTrue(self.asked(PLAIN, [["a", "b"]], [SEMI], "a,b\n"))
        self.assertTrue(self.asked(QUOTING, [["a"]], [PLAIN, SEMI], "'a'\n"))
        self.assertFalse(self.asked(QUOTING, [["a"]], [PLAIN, SEMI], "a\n"))
        self.assertFalse(self.asked(QUOTING, [["a"]], [PLAIN], "'a'"))
        self.assertFalse(self.asked(QUOTING, [["a"]], [PLAIN], "'b'\n"))
        self.assertFalse(self.asked(PLAIN, [["a", "b"]], [SEMI], "a;b\n"))

    def test_a_text_that_another_one_reads_so(self):
        for others in ([PLAIN, SEMI, QUOTING], [QUOTING, SEMI], [SEMI, QUOTING], [QUOTING]):
            self.assertFalse(self.asked(QUOTING, [["a"]], others, "'a'\n"))
        self.assertFalse(self.asked(QUOTING, [["a"]], [PLAIN, SEMI, Dialect(";", "'")], "'a'\n"))
        self.assertFalse(self.asked(QUOTING, [["a"]], [Dialect(";", "'"), PLAIN, SEMI], "'a'\n"))

    def test_others_that_fail_or_read_another_table(self):
        self.assertTrue(self.asked(PLAIN, [["a'"]], [QUOTING], "a'\n"))
        self.assertTrue(self.asked(PLAIN, [["'a'"]], [QUOTING], "'a'\n"))

    def test_no_others(self):
        self.assertTrue(self.asked(PLAIN, [["a"]], [], "a\n"))
        self.assertTrue(self.asked(PLAIN, [], [], ""))
        self.assertFalse(self.asked(PLAIN, [["a"]], [], "b\n"))
        self.assertFalse(self.asked(PLAIN, [["a"]], [], "a"))
        self.assertFalse(self.asked(PLAIN, [["'"]], [], "'"))

    def test_longer_ones_are_sole_too(self):
        self.assertTrue(self.asked(Dialect(",", thin=True), [["a"]], [PLAIN], "   a\n"))
        self.assertTrue(self.asked(Dialect(",", thin=True), [], [PLAIN], "  "))
        self.assertFalse(self.asked(Dialect(",", thin=True), [], [PLAIN], ""))

    def test_whatever_is_no_text(self):
        for thing in things_but_texts() + [Anything()]:
            for table in ([], [[""]], [["a"]]):
                self.assertFalse(self.asked(PLAIN, table, [], thing))
                self.assertFalse(self.asked(QUOTING, table, [PLAIN], thing))
        for sign in NO_SIGNS:
            self.assertFalse(self.asked(PLAIN, [["a"]], [], "a" + sign + LINE))
            self.assertFalse(self.asked(PLAIN, [["a"]], [], sign + "a\n"))

    def test_a_text_in_which_no_sign_fails_is_not_yet_read(self):
        self.assertFalse(self.asked(PLAIN, [], [], "a"))
        self.assertFalse(self.asked(QUOTING, [["a"]], [PLAIN], "'a'\nb"))

    def test_2000_and_2001_signs(self):
        thin = Dialect(",", thin=True)
        self.assertTrue(self.asked(thin, [["a"]], [PLAIN], " " * 1998 + "a\n"))
        self.assertFalse(self.asked(thin, [["a"]], [PLAIN], " " * 1999 + "a\n"))
        self.assertTrue(self.asked(thin, [], [], " " * 2000))
        self.assertFalse(self.asked(thin, [], [], " " * 2001))

    def test_against_the_model(self):
        chance = random.Random(77)
        found = []
        for again in range(150):
            told, others = some_told(chance), [some_told(chance) for other in range(chance.randrange(4))]
            for table in ([], [[""]], [["a"]], [["", ""]], [["'"]]):
                for text in all_texts(",'^a \n", 3):
                    wanted = model_table(told, text) == table and table not in [model_table(other, text)
                                                                                for other in others]
                    if wanted or chance.random() < 0.05:
                        found.append(wanted)
                        self.assertIs(is_sole(Dialect(*told), table, [Dialect(*other) for other in others], text),
                                      wanted, (told, table, others, text))
        self.assertGreater(found.count(True), 100)

    def test_what_is_handed_in_stays_and_by_name(self):
        table, others = [["a"]], [PLAIN]
        for again in range(2):
            self.assertIs(is_sole(text="'a'\n", others=others, table=table, dialect=QUOTING), True)
            self.assertEqual((table, others), ([["a"]], [PLAIN]))
        others.append(QUOTING)
        self.assertIs(is_sole(QUOTING, table, others, "'a'\n"), False)


if __name__ == "__main__":
    unittest.main()
