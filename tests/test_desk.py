import random
import unittest

from dialecthall.desk import Desk
from dialecthall.dialects import Dialect
from dialecthall.errors import NoAsk, NoMost, NoName, NoRow, NoTable, NoText, TooMany
from dialecthall.rows import house_table, house_text, row_of
from dialecthall.signs import is_table
from tests.helper import (LINE, NO_SIGNS, SMALL, Anything, all_texts, are_alike, model_fall, model_far, model_groups,
                          model_length, model_pairs, model_sole, model_table, model_walk, model_writing, refusal,
                          some_told, things_but_texts, turned)

NONE = (False, False, False, False)
TOLD = {"comma": (",", "", "") + NONE, "semi": (";", "", "") + NONE, "quoting": (",", "'", "") + NONE,
        "thin": (",", "'", "", False, False, True, False), "twin": (",", "'", "", True, True, False, False),
        "house": (",", "\"", "", True, True, False, False), "freeing": (",", "'", "^", False, True, True, True)}
LETTERS = "abcdefghijklmnopqrstuvwxyz"

# Each row with its names, and whether a rest is told of it.
ROWS = [("drop NAME", False), ("names", False), ("row NAME", False), ("read NAME", True), ("kinds NAME", True),
        ("go NAME", True), ("write NAME", True), ("full NAME", False), ("compare NAME NAME", False),
        ("sole 10 NAME", True), ("sole 10 NAME NAME", True), ("find", True), ("even", True), ("groups", False),
        ("telling", False), ("asker", False), ("ask", False), ("hear", True), ("fail", False), ("left", False),
        ("heard", False)]


def desk_with(told):
    """A desk that keeps these dialects, a dict by their names, in its order."""
    desk = Desk()
    for name, one in told.items():
        assert desk.say(row_of(name, Dialect(*one))) == "ok"
    return desk


def named(all_told):
    return {"d" + LETTERS[place]: told for place, told in enumerate(all_told)}


class AtTheDesk(unittest.TestCase):
    def says(self, desk, text, answer):
        told = desk.say(text)
        self.assertIsInstance(told, str)
        self.assertEqual(told, answer, text)

    def refuses(self, desk, text, *wanted):
        """What is refused, and that nothing is changed by it."""
        before = self.all_of(desk)
        self.assertEqual(refusal(desk.say, text), wanted, repr(text)[:200])
        self.assertEqual(self.all_of(desk), before, repr(text)[:200])

    def all_of(self, desk):
        """What a desk tells of all that it keeps, as far as asking changes nothing."""
        names = desk.say("names")
        rows = [desk.say("row " + name) for name in names.split(" ") if name != "-"]
        refused = refusal(desk.say, "left")
        return names, rows, refused or (desk.say("left"), desk.say("heard"))


class Kept(AtTheDesk):
    def test_a_new_one_keeps_none(self):
        desk = Desk()
        self.says(desk, "names", "-")
        self.says(desk, "groups", "-")
        self.says(desk, "telling", "")
        self.says(desk, "find\na\n", "none")
        self.says(desk, "even\na\n", "none")
        self.says(desk, "find", "none")

    def test_names_and_rows(self):
        desk = desk_with(TOLD)
        self.says(desk, "names", "comma semi quoting thin twin house freeing")
        self.says(desk, "row house", "dialect house 44 34 - 1100")
        self.says(desk, "row freeing", "dialect freeing 44 39 94 0111")
        for name, told in TOLD.items():
            self.says(desk, "row " + name, row_of(name, Dialect(*told)))
        self.says(desk_with({"a": TOLD["comma"]}), "names", "a")

    def test_told_again_under_a_name_that_is_kept(self):
        desk = desk_with({"a": TOLD["comma"], "b": TOLD["semi"], "c": TOLD["twin"]})
        self.says(desk, "dialect b 58 39 - 0001", "ok")
        self.says(desk, "names", "a b c")
        self.says(desk, "row b", "dialect b 58 39 - 0001")
        self.says(desk, "read b\nx:y\n", "table\nx,y\n")
        self.says(desk, "dialect a 58 39 - 0001", "ok")
        self.says(desk, "names", "a b c")
        self.says(desk, "compare a b", "alike " + str(len(model_pairs((":", "'", "") + NONE[:3] + (True,),
                                                                      (":", "'", "") + NONE[:3] + (True,)))))

    def test_dropped_and_told_again(self):
        desk = desk_with({"a": TOLD["comma"], "b": TOLD["semi"], "c": TOLD["twin"]})
        self.says(desk, "drop a", "ok")
        self.says(desk, "names", "b c")
        self.refuses(desk, "row a", NoName, "a")
        self.refuses(desk, "drop a", NoName, "a")
        self.says(desk, "dialect a 44 - - 0000", "ok")
        self.says(desk, "names", "b c a")
        self.says(desk, "drop c", "ok")
        self.says(desk, "names", "b a")
        for name in "ba":
            self.says(desk, "drop " + name, "ok")
        self.says(desk, "names", "-")

    def test_the_thirteenth(self):
        desk = Desk()
        for letter in LETTERS[:12]:
            self.says(desk, f"dialect {letter} 44 - - 0000", "ok")
        names = " ".join(LETTERS[:12])
        for row in ("dialect m 44 - - 0000", "dialect mm 59 39 - 1111"):
            self.refuses(desk, row, TooMany, 12)
        self.says(desk, "names", names)
        # One in the place of another is no thirteenth.
        for letter in "lag":
            self.says(desk, f"dialect {letter} 59 - - 0000", "ok")
            self.says(desk, "row " + letter, f"dialect {letter} 59 - - 0000")
        self.says(desk, "names", names)
        self.says(desk, "drop b", "ok")
        self.says(desk, "dialect m 44 - - 0000", "ok")
        self.says(desk, "names", "a c d e f g h i j k l m")
        self.refuses(desk, "dialect b 44 - - 0000", TooMany, 12)
        self.refuses(desk, "dialect b 44 - - 0002", NoRow)
        self.refuses(desk, "dialect b 44 - - 0000\nx", NoRow)

    def test_two_desks_by_turns(self):
        one, other = Desk(), Desk()
        self.says(one, "dialect a 44 - - 0000", "ok")
        self.says(other, "names", "-")
        self.says(other, "dialect a 59 - - 0000", "ok")
        self.says(other, "dialect b 44 - - 0000", "ok")
        self.says(one, "names", "a")
        self.says(one, "row a", "dialect a 44 - - 0000")
        self.says(other, "asker", "ok")
        self.refuses(one, "ask", NoAsk)
        self.says(one, "asker", "ok")
        self.says(one, "ask", "none")
        self.assertTrue(other.say("ask").startswith("text\n"))
        self.says(other, "fail", "ok")
        self.says(one, "heard", "0")
        self.says(other, "heard", "1")
        self.says(one, "drop a", "ok")
        self.says(other, "names", "a b")


class RefusedRows(AtTheDesk):
    def test_whatever_is_no_text(self):
        desk = desk_with(TOLD)
        for thing in things_but_texts() + [Anything(), ["names"], ("names",), b"names"]:
            self.refuses(desk, thing, NoText)
        for sign in NO_SIGNS:
            self.refuses(desk, "names" + sign, NoText)
            self.refuses(desk, "read comma\n" + sign, NoText)
            self.refuses(Desk(), "nothing\n" + sign, NoText)

    def test_2000_and_2001_signs(self):
        desk = desk_with(TOLD)
        self.says(desk, "kinds comma\n" + "a" * 1988, " ".join(["put"] * 1988))
        self.refuses(desk, "kinds comma\n" + "a" * 1989, NoText)
        self.refuses(desk, "a" * 2001, NoText)
        self.refuses(desk, "a" * 2000, NoRow)

    def test_another_first_word(self):
        desk = desk_with(TOLD)
        for row in ("", " ", "name", "Names", "NAMES", "names,", "x", "comma", "drops comma", "rows comma",
                    "reads comma", "wide comma", "soles 10 comma", "finds", "evens", "group", "tell", "asked", "asks",
                    "hears", "fails", "lefts", "hear d", "dialects a 44 - - 0000", "-", "0", "open",
                    "text", "keep comma", "say", "told"):
            self.refuses(desk, row, NoRow)
            self.refuses(desk, row + LINE, NoRow)
            self.refuses(desk, row + LINE + "a\n", NoRow)

    def test_too_few_words_and_too_many(self):
        desk = desk_with(TOLD)
        desk.say("asker")
        for row, rest in ROWS:
            good = row.replace("NAME", "comma").split(" ")
            if good[0] != "sole":
                self.refuses(desk, " ".join(good + ["comma"]), NoRow)
                self.refuses(desk, " ".join(good + ["a"]), NoRow)
            self.refuses(desk, " ".join(good + [""]), NoRow)
            self.refuses(desk, " ".join([""] + good), NoRow)
            self.refuses(desk, "  ".join(good) if len(good) > 1 else good[0] + "  ", NoRow)
            if len(good) > 1:
                self.refuses(desk, good[0], NoRow)
                self.refuses(desk, " ".join(good[:1] + [""] + good[1:]), NoRow)
        self.refuses(desk, "compare comma", NoRow)
        self.refuses(desk, "compare comma semi twin", NoRow)
        self.refuses(desk, "sole 10", NoRow)
        self.refuses(desk, "sole comma", NoRow)
        self.refuses(desk, "sole 10 ", NoRow)

    def test_words_that_are_no_names(self):
        desk = desk_with(TOLD)
        for word in ("", "Comma", "COMMA", "comma1", "1", "-", "abcdefghi", "a,b", "comma;", "com-ma"):
            for row, rest in ROWS:
                places = [place for place, other in enumerate(row.split(" ")) if other == "NAME"]
                for place in places:
                    words = row.replace("NAME", "comma").split(" ")
                    words[place] = word
                    self.refuses(desk, " ".join(words), NoRow)

    def test_a_rest_where_none_is_told(self):
        desk = desk_with(TOLD)
        desk.say("asker")
        desk.say("ask")
        for row, rest in ROWS + [("dialect new 44 - - 0000", False)]:
            row = row.replace("NAME", "comma")
            if not rest:
                for more in ("a", LINE, " ", "a\n", "names"):
                    self.refuses(desk, row + LINE + more, NoRow)
        # A rest without signs is none.
        for row in ("names", "full house", "groups", "telling", "left", "heard", "ask", "compare comma semi",
                    "row comma"):
            self.assertEqual(desk.say(row + LINE), desk.say(row))
        self.says(desk, "dialect new 44 - - 0000\n", "ok")
        self.says(desk, "drop new\n", "ok")
        self.says(desk, "asker\n", "ok")

    def test_a_dialects_row_that_is_none(self):
        desk = desk_with(TOLD)
        for row in ("dialect", "dialect new", "dialect new 44 - - 000", "dialect new 44 - - 00000",
                    "dialect new 44 - - 0002", "dialect new - - - 0000", "dialect new 044 - - 0000",
                    "dialect new 37 - - 0000", "dialect new 44+44 - - 0000", "dialect new 44  - 0000",
                    "dialect New 44 - - 0000", "dialect  44 - - 0000", "dialect abcdefghi 44 - - 0000",
                    "dialect new 44 - - 0000 ", "dialect new 44 - - 0000 0", "dialect comma 44 39+34+94 - 0000"):
            self.refuses(desk, row, NoRow)

    def test_names_by_which_none_is_kept(self):
        desk = desk_with(TOLD)
        for row, rest in ROWS:
            if "NAME" in row:
                self.refuses(desk, row.replace("NAME", "nobody"), NoName, "nobody")
        self.refuses(desk, "compare nobody comma", NoName, "nobody")
        self.refuses(desk, "compare comma nobody", NoName, "nobody")
        self.refuses(desk, "compare nobody noone", NoName, "nobody")
        self.refuses(desk, "sole 10 comma semi noone nobody\na\n", NoName, "noone")
        self.refuses(desk, "sole 10 nobody noone semi\na\n", NoName, "nobody")
        self.refuses(Desk(), "row a", NoName, "a")

    def test_the_order(self):
        desk = desk_with(TOLD)
        # NoText ahead of NoRow, NoRow ahead of NoName, NoName ahead of what the row tells.
        self.refuses(desk, "nothing \t", NoText)
        self.refuses(desk, "compare nobody Noone", NoRow)
        self.refuses(desk, "compare nobody noone\nx", NoRow)
        self.refuses(desk, "row nobody\nx", NoRow)
        self.refuses(desk, "read nobody comma", NoRow)
        self.refuses(desk, "sole 00 nobody\na", NoRow)
        self.refuses(desk, "sole 10 nobody A\na", NoRow)
        self.refuses(desk, "sole 4001 nobody\n\"", NoName, "nobody")
        self.refuses(desk, "sole 0 comma nobody comma comma comma\n\"", NoName, "nobody")
        self.refuses(desk, "write nobody\n\"", NoName, "nobody")
        self.refuses(desk, "hear x\n\"", NoRow)
        self.refuses(desk, "left\nx", NoRow)
        self.refuses(desk, "ask me", NoRow)


class Reading(AtTheDesk):
    def test_read(self):
        desk = desk_with(TOLD)
        self.says(desk, "read comma\na,b\n", "table\na,b\n")
        self.says(desk, "read semi\na,b;c\n", "table\n\"a,b\",c\n")
        self.says(desk, "read twin\n'it''s',\"\n", "table\nit's,\"\"\"\"\n")
        self.says(desk, "read twin\n'a\nb'\n", "table\n\"a\nb\"\n")
        self.says(desk, "read comma", "table\n")
        self.says(desk, "read comma\n", "table\n")
        self.says(desk, "read comma\n\n", "table\n\n")
        self.says(desk, "read thin\n  ", "table\n")

    def test_read_is_broken(self):
        desk = desk_with(TOLD)
        self.says(desk, "read comma\na", "broken 0 1 cut")
        self.says(desk, "read quoting\na,b\nc'\n", "broken 1 5 quote")
        self.says(desk, "read quoting\n'\n", "broken 0 1 line")
        self.says(desk, "read quoting\n\n\n'a'b", "broken 2 5 behind")

    def test_what_is_read_and_is_no_table(self):
        desk = desk_with(TOLD)
        self.says(desk, "read comma\n" + LINE * 60, "table\n" + LINE * 60)
        self.refuses(desk, "read comma\n" + LINE * 61, NoTable)
        self.refuses(desk, "read comma\n" + "," * 20 + LINE, NoTable)
        self.says(desk, "read comma\n" + "a" * 400 + LINE, "table\n" + "a" * 400 + LINE)
        self.refuses(desk, "read comma\n" + "a" * 401 + LINE, NoTable)
        self.says(desk, "read comma\n" + LINE * 61 + "a", "broken 61 62 cut")

    def test_kinds(self):
        desk = desk_with(TOLD)
        self.says(desk, "kinds comma\na,b\n", "put part put end")
        self.says(desk, "kinds quoting\n'a,b',c\n", "skip put put put skip part put end")
        self.says(desk, "kinds quoting\na'b\n", "put")
        self.says(desk, "kinds comma", "-")
        self.says(desk, "kinds comma\n", "-")
        self.says(desk, "kinds comma\n\n", "end")
        self.says(desk, "kinds comma\na", "put")

    def test_go(self):
        desk = desk_with(TOLD)
        self.says(desk, "go comma\na\n", "text\n")
        self.says(desk, "go comma", "text\n")
        self.says(desk, "go comma\na", "text\n\n")
        self.says(desk, "go quoting\n'a", "text\n'\n")
        self.says(desk, "go quoting\na'", "none")
        self.says(desk_with({"a": (",", "'", "'") + NONE}), "go a\na", "text\n\n")

    def test_against_the_model(self):
        desk = desk_with(TOLD)
        for name, told in TOLD.items():
            for text in all_texts(",'a \n", 3) + all_texts("'^;\"\n", 3):
                far, table = model_far(told, text), model_table(told, text)
                wanted = "table\n" + house_text(table) if far is None else f"broken {far[1]} {far[0]} {far[2]}"
                self.says(desk, f"read {name}\n{text}", wanted)
                kinds, rows, state, word = model_walk(told, text)
                self.says(desk, f"kinds {name}\n{text}", " ".join(kinds) or "-")
                answer = desk.say(f"go {name}\n{text}")
                if word is not None or model_length(told, state) is None:
                    self.assertEqual(answer, "none")
                else:
                    self.assertEqual(answer[:5], "text\n")
                    self.assertEqual(len(answer) - 5, model_length(told, state))
                    self.assertIsNone(model_far(told, text + answer[5:]))


class Writing(AtTheDesk):
    def test_write(self):
        desk = desk_with(TOLD)
        self.says(desk, "write comma\na,b\n", "text\na,b\n")
        self.says(desk, "write semi\n\"a,b\",c\n", "text\na,b;c\n")
        self.says(desk, "write quoting\n\"a,b\",c\n", "text\n'a,b',c\n")
        self.says(desk, "write twin\nit's,'\n", "text\n'it''s',''''\n")
        self.says(desk, "write comma", "text\n")
        self.says(desk, "write comma\n", "text\n")
        self.says(desk, "write comma\n\n", "text\n\n")
        self.says(desk, "write comma\n\"a\",\"\"\n", "text\na,\n")

    def test_write_none(self):
        desk = desk_with(TOLD)
        self.says(desk, "write comma\n\",\"\n", "none 0 0")
        self.says(desk, "write comma\na\nb,\"c\nd\"\n", "none 1 1")
        self.says(desk, "write quoting\na,b'\n", "none 0 1")

    def test_a_rest_that_is_no_table_in_the_houses_way(self):
        desk = desk_with(TOLD)
        desk.say("asker")
        desk.say("ask")
        for row in ("write comma", "sole 10 comma", "sole 10 comma semi", "hear"):
            for rest in ("a", "\"", "a\"\n", "\"a\"b\n", LINE * 61, "," * 20 + LINE, "a" * 401 + LINE, "a\nb"):
                self.refuses(desk, row + LINE + rest, NoTable)

    def test_full(self):
        desk = desk_with(TOLD)
        self.says(desk, "full house", "all")
        self.says(desk, "full twin", "all")
        answer = desk.say("full comma")
        self.assertIn(answer, ("lacks\n\",\"\n", "lacks\n\"\n\"\n"))
        self.says(desk_with({"a": (",", "", "^") + NONE}), "full a", "lacks\n\"\n\"\n")
        for name, told in named(SMALL[:12]).items():
            answer = desk_with({name: told}).say("full " + name)
            if answer != "all":
                self.assertEqual(answer[:6], "lacks\n")
                self.assertEqual(model_writing(told, house_table(answer[6:]))[0], "none")

    def test_written_and_read_again(self):
        chance = random.Random(96)
        desk = desk_with(TOLD)
        for again in range(100):
            table = [["".join(chance.choices(",'\"a \n^", k=chance.randrange(4)))
                      for cell in range(chance.randint(1, 3))] for row in range(chance.randrange(4))]
            for name, told in TOLD.items():
                answer, wanted = desk.say(f"write {name}\n" + house_text(table)), model_writing(told, table)
                if wanted[0] == "none":
                    self.assertEqual(answer, f"none {wanted[1]} {wanted[2]}")
                else:
                    self.assertEqual((answer[:5], len(answer) - 5), ("text\n", wanted[1]))
                    self.says(desk, f"read {name}\n{answer[5:]}", "table\n" + house_text(table))


class Comparing(AtTheDesk):
    def test_compare(self):
        desk = desk_with(TOLD)
        self.says(desk, "compare comma comma", "alike 3")
        answer = desk.say("compare quoting twin")
        self.assertEqual(answer[:7], "parted\n")
        self.assertNotEqual(model_table(TOLD["quoting"], answer[7:]), model_table(TOLD["twin"], answer[7:]))
        self.assertEqual(len(desk.say("compare comma semi")), len("parted\n,\n"))

    def test_many(self):
        chance = random.Random(97)
        for again in range(20):
            told = named([some_told(chance, ",;'") for one in range(6)])
            told["x"] = told["da"]
            desk = desk_with(told)
            for one in told:
                for other in told:
                    answer = desk.say(f"compare {one} {other}")
                    if are_alike(told[one], told[other]):
                        self.assertEqual(answer, f"alike {len(model_pairs(told[one], told[other]))}")
                    else:
                        self.assertEqual(answer[:7], "parted\n")
                        self.assertNotEqual(model_table(told[one], answer[7:]), model_table(told[other], answer[7:]))


class Sole(AtTheDesk):
    def test_text(self):
        desk = desk_with(TOLD)
        self.says(desk, "sole 100 quoting comma\na\n", "text\n'a'\n")
        self.says(desk, "sole 100 comma semi\nx,y\n", "text\nx,y\n")
        self.says(desk, "sole 100 thin comma\n", "text\n ")
        self.says(desk, "sole 100 thin comma", "text\n ")

    def test_none_and_open(self):
        desk = desk_with(TOLD)
        self.says(desk, "sole 100 comma semi\na\n", "none 3")
        self.says(desk, "sole 3 comma semi\na\n", "none 3")
        self.says(desk, "sole 2 comma semi\na\n", "open")
        self.says(desk, "sole 1 comma semi\na\n", "open")
        self.says(desk, "sole 100 comma comma\na\n", "none 3")

    def test_no_names_more(self):
        desk = desk_with(TOLD)
        self.says(desk, "sole 100 comma\na,b\n", "text\na,b\n")
        self.says(desk, "sole 100 comma\n\",\"\n", "none 1")
        self.says(desk, "sole 1 comma", "text\n")

    def test_how_many_names(self):
        desk = desk_with(TOLD)
        self.says(desk, "sole 100 comma semi semi semi\na\n", "none 3")
        self.says(desk, "sole 100 comma comma comma comma\na\n", "none 3")
        for many in range(4, 13):
            self.refuses(desk, "sole 100 comma" + " semi" * many + "\na\n", TooMany, 3)
        self.refuses(desk, "sole 100 comma" + " semi" * 13 + "\na\n", NoRow)
        self.refuses(desk, "sole 100 comma" + " nobody" * 13 + "\na\n", NoRow)
        self.refuses(desk, "sole 100 comma" + " semi" * 11 + " nobody\na\n", NoName, "nobody")

    def test_most(self):
        desk = desk_with(TOLD)
        for most in ("1", "9", "10", "4000", "3999"):
            self.assertIsNone(refusal(desk.say, f"sole {most} comma semi\na\n"), most)
        for most in ("0", "4001", "99999", "10000"):
            self.refuses(desk, f"sole {most} comma semi\na\n", NoMost)
        for most in ("", "00", "01", "007", "0100", "100000", "000000", "-1", "+1", "1.0", "1a", "a", "1+1", "ten", "-",
                     "0x1", "1_0", "123456", "1 "):
            self.refuses(desk, f"sole {most} comma semi\na\n", NoRow)

    def test_the_order(self):
        desk = desk_with(TOLD)
        large, four = "a" * 24 + LINE, " semi" * 4
        self.refuses(desk, f"sole 0 comma{four}\n\"", NoTable)
        self.refuses(desk, f"sole 0 comma{four}\n" + "a" * 401 + LINE, NoTable)
        self.refuses(desk, f"sole 0 comma{four}\n{large}", TooMany, 24)
        self.refuses(desk, f"sole 0 comma\n{large}", TooMany, 24)
        self.refuses(desk, f"sole 100 comma\n{large}", TooMany, 24)
        self.refuses(desk, f"sole 0 comma{four}\n" + "a" * 23 + LINE, TooMany, 3)
        self.refuses(desk, "sole 0 comma semi\n" + "a" * 23 + LINE, NoMost)
        self.assertEqual(desk.say("sole 4000 comma semi\n" + "a" * 23 + LINE), "none 25")

    def test_against_the_model(self):
        desk = desk_with(TOLD)
        for name, told in TOLD.items():
            for one, other in (("comma", "thin"), ("twin", "house"), ("freeing", "quoting")):
                for table in ([["a"]], [["", "'"]], [[" ,"]], [["a"], [""]]):
                    length, places = model_sole(told, table, [TOLD[one], TOLD[other]])
                    answer = desk.say(f"sole 4000 {name} {one} {other}\n" + house_text(table))
                    if length is None:
                        self.assertEqual(answer, f"none {len(places)}")
                    else:
                        self.assertEqual((answer[:5], len(answer) - 5), ("text\n", length))
                        self.assertEqual(model_table(told, answer[5:]), table)
                    self.says(desk, f"sole {max(len(places) - 1, 1)} {name} {one} {other}\n" + house_text(table),
                              "open" if len(places) > 1 else answer)


class Finding(AtTheDesk):
    def test_find(self):
        desk = desk_with({"comma": TOLD["comma"], "semi": TOLD["semi"], "quoting": TOLD["quoting"]})
        self.says(desk, "find\na,b\n", "read comma semi quoting")
        self.says(desk, "find\na'\n", "read comma semi")
        self.says(desk, "find\na\nb", "none comma 1 3 cut")
        self.says(desk, "find", "read comma semi quoting")
        self.says(desk, "find\n", "read comma semi quoting")

    def test_even(self):
        desk = desk_with({"comma": TOLD["comma"], "semi": TOLD["semi"], "quoting": TOLD["quoting"]})
        self.says(desk, "even\na,b\nc\n", "read semi")
        self.says(desk, "even\na,b\nc,d\n", "read comma semi quoting")
        self.says(desk, "even\na,b;\nc\n", "none comma 1 6 uneven")
        self.says(desk, "find\na,b;\nc\n", "read comma semi quoting")
        self.says(desk, "even", "read comma semi quoting")

    def test_the_documents_example(self):
        desk = desk_with({"one": (",", "'", "") + NONE, "other": (",", "a", "") + NONE})
        self.says(desk, "find\na'b\n", "none other 0 3 line")

    def test_the_order_of_what_is_kept(self):
        desk = desk_with({"b": TOLD["comma"], "a": TOLD["semi"], "c": TOLD["comma"]})
        self.says(desk, "find\nx\n", "read b a c")
        desk.say("drop b")
        desk.say("dialect b 44 - - 0000")
        self.says(desk, "find\nx\n", "read a c b")
        self.says(desk, "find\nx", "none a 0 1 cut")

    def test_against_the_model(self):
        desk = desk_with(TOLD)
        names = list(TOLD)
        for text in all_texts(",'a\n;", 4)[::3]:
            for word in ("find", "even"):
                falls = [model_fall(TOLD[name], text, word == "even") for name in names]
                takers = [name for name, fall in zip(names, falls) if fall is None]
                if takers:
                    self.says(desk, f"{word}\n{text}", "read " + " ".join(takers))
                else:
                    last = max(range(len(names)), key=lambda place: (falls[place][0], -place))
                    at, row, why = falls[last]
                    self.says(desk, f"{word}\n{text}", f"none {names[last]} {row} {at} {why}")


class Grouping(AtTheDesk):
    def test_groups(self):
        self.says(desk_with(TOLD), "groups", "comma; semi; quoting; thin; twin; house; freeing")
        self.says(desk_with({"b": TOLD["comma"], "a": TOLD["semi"], "c": turned(TOLD["comma"], 3)}), "groups", "b c; a")
        self.says(desk_with({"b": TOLD["comma"], "a": TOLD["comma"]}), "groups", "b a")
        self.says(desk_with({"b": TOLD["comma"]}), "groups", "b")

    def test_telling(self):
        desk = desk_with(TOLD)
        table = house_table(desk.say("telling"))
        self.assertTrue(is_table(table))
        self.assertLess(len(table), 7)
        self.assertTrue(all(len(row) == 1 for row in table))
        texts = [row[0] for row in table]
        read = [[model_table(told, text) for text in texts] for told in TOLD.values()]
        self.assertTrue(all(one not in read[:place] for place, one in enumerate(read)))
        self.says(desk_with({"b": TOLD["comma"]}), "telling", "")
        self.says(desk_with({"b": TOLD["comma"], "a": TOLD["comma"]}), "telling", "")

    def test_against_the_model(self):
        chance = random.Random(98)
        for again in range(15):
            told = named([some_told(chance, ",;") for one in range(chance.randint(1, 8))])
            names = list(told)
            groups = model_groups(list(told.values()))
            self.says(desk_with(told), "groups",
                      "; ".join(" ".join(names[place] for place in group) for group in groups))


class Asking(AtTheDesk):
    def test_no_asker_was_made(self):
        for desk in (Desk(), desk_with(TOLD)):
            for row in ("ask", "hear", "hear\na\n", "hear\n\"", "hear\na", "fail", "left", "heard"):
                self.refuses(desk, row, NoAsk)

    def test_asker(self):
        desk = desk_with({"b": TOLD["comma"], "a": TOLD["semi"]})
        self.says(desk, "asker", "ok")
        self.says(desk, "left", "b a")
        self.says(desk, "heard", "0")
        answer = desk.say("ask")
        self.assertEqual(answer[:5], "text\n")
        self.says(desk, "ask", answer)
        self.says(desk, "hear\n" + house_text(model_table(TOLD["semi"], answer[5:])), "ok")
        self.says(desk, "left", "a")
        self.says(desk, "heard", "1")
        self.says(desk, "ask", "none")
        for row in ("hear\na\n", "hear", "fail"):
            self.refuses(desk, row, NoAsk)

    def test_fail(self):
        both = {"b": TOLD["thin"], "a": TOLD["quoting"]}
        desk = desk_with(both)
        desk.say("asker")
        text = desk.say("ask")[5:]
        failing = [name for name, told in both.items() if model_table(told, text) is None]
        self.says(desk, "fail", "ok")
        self.says(desk, "left", " ".join(failing) or "-")
        self.says(desk, "heard", "1")

    def test_an_answer_that_none_would_give(self):
        desk = desk_with(TOLD)
        desk.say("asker")
        desk.say("ask")
        self.says(desk, "hear\nnone,of,them,reads,this\n", "ok")
        self.says(desk, "left", "-")
        self.says(desk, "heard", "1")
        self.says(desk, "ask", "none")
        self.refuses(desk, "fail", NoAsk)

    def test_an_asker_of_none(self):
        desk = Desk()
        self.says(desk, "asker", "ok")
        self.says(desk, "left", "-")
        self.says(desk, "ask", "none")
        self.says(desk, "heard", "0")
        self.refuses(desk, "fail", NoAsk)

    def test_no_question_was_asked(self):
        desk = desk_with(TOLD)
        desk.say("asker")
        for row in ("fail", "hear", "hear\na\n"):
            self.refuses(desk, row, NoAsk)
        # What is no table comes ahead of a question that does not wait.
        for row in ("hear\na", "hear\n\"", "hear\n" + LINE * 61):
            self.refuses(desk, row, NoTable)
        self.says(desk, "heard", "0")

    def test_what_is_refused_leaves_the_question_waiting(self):
        desk = desk_with(TOLD)
        desk.say("asker")
        question = desk.say("ask")
        self.refuses(desk, "hear\n\"", NoTable)
        self.refuses(desk, "fail\nx", NoRow)
        self.refuses(desk, "hear x\n", NoRow)
        self.says(desk, "ask", question)
        self.says(desk, "fail", "ok")

    def test_what_comes_to_the_dialects_behind(self):
        desk = desk_with({"b": TOLD["comma"], "a": TOLD["semi"], "c": TOLD["quoting"]})
        desk.say("asker")
        question = desk.say("ask")
        self.says(desk, "dialect b 58 - - 0000", "ok")
        self.says(desk, "dialect a 58 - - 0000", "ok")
        self.says(desk, "drop c", "ok")
        self.says(desk, "dialect d 58 - - 0000", "ok")
        self.says(desk, "names", "b a d")
        self.says(desk, "left", "b a c")
        self.says(desk, "ask", question)
        while question != "none":
            table = model_table(TOLD["quoting"], question[5:])
            desk.say("fail" if table is None else "hear\n" + house_text(table))
            question = desk.say("ask")
        self.says(desk, "left", "c")
        self.says(desk, "groups", "b a d")
        self.refuses(desk, "row c", NoName, "c")

    def test_a_new_one_in_the_place_of_the_old_one(self):
        desk = desk_with(TOLD)
        desk.say("asker")
        desk.say("ask")
        desk.say("fail")
        desk.say("drop comma")
        self.says(desk, "asker", "ok")
        self.says(desk, "left", "semi quoting thin twin house freeing")
        self.says(desk, "heard", "0")
        self.refuses(desk, "fail", NoAsk)

    def test_each_hidden(self):
        for hidden, told in TOLD.items():
            desk = desk_with(TOLD)
            desk.say("asker")
            question = desk.say("ask")
            while question != "none":
                table = model_table(told, question[5:])
                self.says(desk, "fail" if table is None else "hear\n" + house_text(table), "ok")
                question = desk.say("ask")
            self.says(desk, "left", hidden)
            self.assertLess(int(desk.say("heard")), len(TOLD))


class ByName(AtTheDesk):
    def test_say(self):
        self.assertEqual(Desk().say(text="names"), "-")


if __name__ == "__main__":
    unittest.main()
