"""The promise over the whole program (5, 98): by the modules, and by a desk that is told texts alone."""

import random
import unittest

from dialecthall.asking import Asker
from dialecthall.desk import Desk
from dialecthall.dialects import Dialect
from dialecthall.endings import go_on
from dialecthall.errors import Broken, NoWriting
from dialecthall.full import full
from dialecthall.groups import groups, telling
from dialecthall.pairs import is_alike, is_parted
from dialecthall.papers import is_none, is_sole
from dialecthall.parted import compare
from dialecthall.reading import furthest, read
from dialecthall.rows import house_table, house_text, row_of
from dialecthall.sole import sole
from dialecthall.trees import sorts, tree_of
from dialecthall.writing import shortest
from tests.helper import LINE, SIGNS, SMALL, lists_of_told, made, refusal, some_told

SOME_SIGNS = ",'^;\"a \n"


def reading(dialect, text):
    """What a dialect reads a text as, None where it fails."""
    try:
        return read(dialect, text)
    except Broken:
        return None


def some_table(chance, signs=SOME_SIGNS):
    return [["".join(chance.choices(signs, k=chance.randrange(4))) for cell in range(chance.randint(1, 3))]
            for row in range(chance.randrange(4))]


def answer_of(desk, name, text):
    """How one who has a desk answers a question as the dialect of this name reads it: a row for another desk."""
    answer = desk.say(f"read {name}\n{text}")
    return "fail" if answer.startswith("broken ") else "hear\n" + answer[len("table\n"):]


def desk_of(dialects):
    desk = Desk()
    for place, dialect in enumerate(dialects):
        desk.say(row_of("abcdefghijkl"[place], dialect))
    return desk


class ByTheModules(unittest.TestCase):
    def test_each_text_is_read_or_fails_at_one_place(self):
        chance = random.Random(51)
        for told in SMALL[::2]:
            dialect = Dialect(*told)
            for again in range(8):
                text = "".join(chance.choices(SOME_SIGNS, k=chance.randrange(9)))
                far = furthest(dialect, text)
                self.assertEqual(far is None, reading(dialect, text) is not None)
                if far is not None:
                    self.assertEqual(refusal(read, dialect, text), (Broken, far[1], far[0], far[2]))
                    if far[2] != "cut":
                        self.assertIsNone(go_on(dialect, text))
                        self.assertEqual(furthest(dialect, text + chance.choice(SIGNS)), far)

    def test_a_table_is_written_and_read_again(self):
        chance = random.Random(52)
        for told in SMALL:
            dialect, lacking = Dialect(*told), full(Dialect(*told))
            for again in range(6):
                table = some_table(chance)
                try:
                    self.assertEqual(read(dialect, shortest(dialect, table)), table)
                except NoWriting as error:
                    self.assertIsNotNone(lacking, told)
                    self.assertIsInstance(table[error.row][error.cell], str)
            if lacking is not None:
                self.assertEqual(refusal(shortest, dialect, lacking)[0], NoWriting)

    def test_of_two_dialects_just_one_thing_is_told(self):
        chance = random.Random(53)
        for again in range(200):
            one, other = made([some_told(chance, ",'a ") for dialect in range(2)])
            answer = compare(one, other)
            self.assertIs(is_alike(one, other, answer[1]), answer[0] == "alike")
            self.assertIs(is_parted(one, other, answer[1]), answer[0] == "parted")
            if answer[0] == "parted":
                self.assertNotEqual(reading(one, answer[1]), reading(other, answer[1]))

    def test_of_a_table_a_dialect_and_others(self):
        chance = random.Random(54)
        seen = {"text": 0, "none": 0, "open": 0}
        for again in range(400):
            dialect = Dialect(*some_told(chance, ",'a "))
            others = made([some_told(chance, ",'a ") for other in range(chance.randrange(4))])
            table = [["".join(chance.choices(",'a ", k=chance.randrange(3))) for cell in range(chance.randint(1, 2))]]
            answer = sole(dialect, table, others, chance.choice([20, 4000]))
            seen[answer[0]] += 1
            if answer[0] != "open":
                self.assertIs(is_sole(dialect, table, others, answer[1]), answer[0] == "text")
                self.assertIs(is_none(dialect, table, others, answer[1]), answer[0] == "none")
        self.assertTrue(all(seen.values()), seen)

    def test_a_sole_text_is_never_shorter_than_a_written_one(self):
        chance = random.Random(55)
        for told in SMALL[::3]:
            dialect, table = Dialect(*told), some_table(chance, ",'a")[:1]
            answer = sole(dialect, table, [], 4000)
            if answer[0] == "text":
                self.assertEqual(len(answer[1]), len(shortest(dialect, table)))
            else:
                self.assertEqual(refusal(shortest, dialect, table)[0], NoWriting)

    def test_a_hidden_reader_is_found_out(self):
        for some in lists_of_told(random.Random(56), 39):
            dialects = made(some)
            for hidden, dialect in enumerate(dialects):
                asker = Asker(dialects)
                text = asker.ask()
                while text is not None:
                    asker.hear(reading(dialect, text))
                    text = asker.ask()
                self.assertIn(asker.left(), groups(dialects))
                self.assertIn(hidden, asker.left())
                self.assertLess(asker.asked(), len(groups(dialects)))

    def test_texts_that_tell_apart_make_a_tree_of_the_groups(self):
        for some in lists_of_told(random.Random(57), 39):
            dialects, texts = made(some)[:8], telling(made(some)[:8])[:6]
            tree = tree_of(dialects, texts)
            self.assertIs(sorts(dialects, texts, tree), True)
            if len(telling(dialects)) <= 6:
                leaves = []
                self.gather(tree, leaves)
                self.assertEqual(sorted(leaves), groups(dialects) or [[]])

    def gather(self, tree, leaves):
        if tree[0] == "leaf":
            leaves.append(tree[1])
        else:
            for branch in tree[2]:
                self.gather(branch, leaves)


class ByADesk(unittest.TestCase):
    def test_a_table_is_written_and_read_again(self):
        chance = random.Random(58)
        written = 0
        for told in SMALL[::2]:
            desk = desk_of([Dialect(*told)])
            for again in range(4):
                house = house_text(some_table(chance))
                answer = desk.say("write a\n" + house)
                if answer.startswith("text\n"):
                    written += 1
                    self.assertEqual(desk.say("read a\n" + answer[5:]), "table\n" + house)
                else:
                    self.assertRegex(answer, r"\Anone \d+ \d+\Z")
                    self.assertRegex(desk.say("full a"), r"\Alacks\n")
        self.assertGreater(written, 200)

    def test_what_can_not_be_written(self):
        for told in SMALL[::2]:
            desk = desk_of([Dialect(*told)])
            answer = desk.say("full a")
            if answer != "all":
                self.assertRegex(desk.say("write a\n" + answer[len("lacks\n"):]), r"\Anone 0 [01]\Z")

    def test_a_text_parts_two(self):
        chance = random.Random(59)
        for again in range(100):
            one, other = [some_told(chance, ",'^a ") for dialect in range(2)]
            desk = desk_of(made([one, other]))
            answer = desk.say("compare a b")
            if answer.startswith("parted\n"):
                text = answer[len("parted\n"):]
                self.assertNotEqual(answer_of(desk, "a", text), answer_of(desk, "b", text), (one, other))
                self.assertEqual(desk.say("groups"), "a; b")
                self.assertEqual(len(house_table(desk.say("telling"))), 1)
            else:
                self.assertRegex(answer, r"\Aalike \d+\Z")
                self.assertEqual(desk.say("groups"), "a b")
                self.assertEqual(desk.say("telling"), "")

    def test_a_sole_text_is_read_so_by_one_alone(self):
        chance = random.Random(60)
        for again in range(150):
            desk = desk_of(made([some_told(chance, ",'^a ") for dialect in range(3)]))
            house = house_text([["".join(chance.choices(",'a ", k=2)), "a"]])
            answer = desk.say("sole 4000 a b c\n" + house)
            if answer.startswith("text\n"):
                read_by = [desk.say(f"read {name}\n{answer[5:]}") for name in "abc"]
                self.assertEqual(read_by[0], "table\n" + house)
                self.assertNotIn(read_by[0], read_by[1:])
            else:
                self.assertRegex(answer, r"\A(none \d+|open)\Z")

    def test_a_hidden_reader_is_found_out_by_texts_alone(self):
        for some in lists_of_told(random.Random(61), 52):
            # The one desk asks, the other one reads as one of its dialects and tells nothing else.
            asking, hiding = desk_of(made(some)), desk_of(made(some))
            all_groups = [] if not some else asking.say("groups").split("; ")
            for group in all_groups:
                for name in group.split(" "):
                    self.assertEqual(asking.say("asker"), "ok")
                    question = asking.say("ask")
                    while question != "none":
                        asking.say(answer_of(hiding, name, question[len("text\n"):]))
                        question = asking.say("ask")
                    self.assertEqual(asking.say("left"), group)
                    self.assertLess(int(asking.say("heard")), len(all_groups))

    def test_told_texts_tell_apart_at_a_desk(self):
        for some in lists_of_told(random.Random(62), 39):
            desk = desk_of(made(some))
            texts = [row[0] for row in house_table(desk.say("telling"))]
            names = [name for name in desk.say("names").split(" ") if name != "-"]
            known = {}
            for name in names:
                known.setdefault(tuple(answer_of(desk, name, text) for text in texts), []).append(name)
            self.assertEqual("; ".join(" ".join(group) for group in known.values()) or "-", desk.say("groups"))

    def test_the_house_reads_its_own_way(self):
        chance = random.Random(63)
        desk = Desk()
        desk.say("dialect house 44 34 - 1100")
        for again in range(50):
            house = house_text(some_table(chance))
            self.assertEqual(desk.say("read house\n" + house), "table\n" + house)
            self.assertEqual(desk.say("full house"), "all")
        self.assertEqual(desk.say("read house\n" + LINE), "table\n" + LINE)


if __name__ == "__main__":
    unittest.main()
