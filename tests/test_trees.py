import copy
import itertools
import random
import unittest

from dialecthall.dialects import Dialect
from dialecthall.errors import NoText, TooMany
from dialecthall.trees import depth_of, sorts, tree_of
from tests.helper import (LINE, NO_SIGNS, SMALL, Anything, all_texts, made, model_table, refusal, some_told,
                          things_but_lists, things_but_texts)

NONE = (False, False, False, False)
COMMA, SEMI, QUOTING = (",", "", "") + NONE, (";", "", "") + NONE, (",", "'", "") + NONE
THIN = (",", "", "", False, False, True, False)
# The first is read unlike by the one with the semicolon, the second by the one that quotes, the third by the thin one.
FOUR = [COMMA, SEMI, QUOTING, THIN]
TEXTS = ["a,b\n", "'\n", " \n"]
LEAF = ("leaf", [0, 1, 2, 3])
# The parts of all four by the first text are those without and the one with the semicolon, and so on.
GOOD = ("ask", 0, [("ask", 1, [("ask", 2, [("leaf", [0]), ("leaf", [3])]), ("leaf", [2])]), ("leaf", [1])])


def parts_of(all_told, text, places):
    """Those that read a text as one table, or all fail, are one part (85)."""
    tables = [model_table(all_told[place], text) for place in places]
    parts = [[place for place, table in zip(places, tables) if table == one] for one in tables]
    return [part for number, part in enumerate(parts) if part not in parts[:number]]


def is_number(thing):
    return isinstance(thing, int) and not isinstance(thing, bool)


def model_sorts(all_told, texts, places, tree):
    """Point 85, for a tree of the right form but for its numbers and lists."""
    if tree[0] == "leaf":
        return tree[1] == places and all(len(parts_of(all_told, text, places)) < 2 for text in texts)
    if not is_number(tree[1]) or tree[1] < 0 or tree[1] >= len(texts) or not tree[2]:
        return False
    parts = parts_of(all_told, texts[tree[1]], places)
    return len(parts) == len(tree[2]) and all(model_sorts(all_told, texts, part, branch)
                                              for part, branch in zip(parts, tree[2]))


def model_depth(tree):
    return 0 if tree[0] == "leaf" else 1 + max(model_depth(branch) for branch in tree[2])


def sorting_trees(all_told, texts, places, depth):
    """All trees of at most this depth that sort these places."""
    trees = []
    if all(len(parts_of(all_told, text, places)) < 2 for text in texts):
        trees.append(("leaf", places))
    if depth > 0 and places:
        for at, text in enumerate(texts):
            some = [sorting_trees(all_told, texts, part, depth - 1) for part in parts_of(all_told, text, places)]
            trees += [("ask", at, list(branches)) for branches in itertools.product(*some)]
    return trees


def any_trees(places, texts, depth):
    """Trees of these places, whether or not they sort anything: each leaf has some of them, in any order."""
    leaves = [("leaf", list(some)) for many in range(len(places) + 1) for some in itertools.permutations(places, many)]
    if depth == 0:
        return leaves
    lower = any_trees(places, texts, depth - 1)
    return leaves + [("ask", at, list(branches)) for at in range(-1, texts + 1) for many in (0, 1, 2)
                     for branches in itertools.product(lower, repeat=many)]


def nested(tree, many):
    """The same tree within asks of a text that all read alike: so many trees within one another."""
    while many > 0:
        tree, many = ("ask", 0, [tree]), many - 1
    return tree


class Trees(unittest.TestCase):
    def check(self, all_told, texts):
        """The told tree sorts all places, and none of less depth does."""
        tree = tree_of(made(all_told), texts)
        self.is_tree(tree)
        places = list(range(len(all_told)))
        self.assertTrue(model_sorts(all_told, texts, places, tree), (all_told, texts, tree))
        self.assertIs(sorts(made(all_told), texts, tree), True, (all_told, texts, tree))
        depth = depth_of(tree)
        self.assertEqual(depth, model_depth(tree))
        self.assertIs(depth.__class__, int)
        if depth > 0:
            self.assertEqual(sorting_trees(all_told, texts, places, depth - 1), [], (all_told, texts, tree))
        return tree

    def is_tree(self, tree):
        self.assertIsInstance(tree, tuple)
        if tree[0] == "leaf":
            self.assertEqual(len(tree), 2)
            self.assertIsInstance(tree[1], list)
            self.assertTrue(all(is_number(place) for place in tree[1]))
        else:
            self.assertEqual((tree[0], len(tree)), ("ask", 3))
            self.assertTrue(is_number(tree[1]))
            self.assertIsInstance(tree[2], list)
            self.assertGreater(len(tree[2]), 0)
            for branch in tree[2]:
                self.is_tree(branch)


class TreeOf(Trees):
    def test_ordinary_lists(self):
        self.assertEqual(tree_of(made([COMMA, SEMI]), ["a,b\n"]), ("ask", 0, [("leaf", [0]), ("leaf", [1])]))
        self.assertEqual(tree_of(made([COMMA, SEMI, COMMA]), ["a\n", "a,b\n"]),
                         ("ask", 1, [("leaf", [0, 2]), ("leaf", [1])]))
        self.assertEqual(depth_of(self.check(FOUR, TEXTS)), 3)

    def test_a_leaf(self):
        for all_told, texts in (([], []), ([], ["a\n"]), ([COMMA], TEXTS), ([COMMA, SEMI], []),
                                ([COMMA, SEMI], ["a\n", "", "a"]), ([COMMA] * 8, TEXTS * 2),
                                (FOUR, ["a\n", LINE, "", "a,b"])):
            tree = self.check(all_told, texts)
            self.assertEqual(tree, ("leaf", list(range(len(all_told)))))
            self.assertEqual(depth_of(tree), 0)

    def test_failing_is_one_part(self):
        # Both fail at unlike places, with unlike words: all failings are alike.
        both = [(",", "'", "") + NONE, (",", "a", "") + NONE]
        self.assertEqual(tree_of(made(both), ["a'b\n"]), ("leaf", [0, 1]))
        self.assertEqual(tree_of(made(both + [COMMA]), ["a'b\n"]), ("ask", 0, [("leaf", [0, 1]), ("leaf", [2])]))

    def test_the_table_without_rows_is_no_failing(self):
        self.assertEqual(tree_of(made([THIN, COMMA]), [" "]), ("ask", 0, [("leaf", [0]), ("leaf", [1])]))

    def test_a_text_that_sorts_better(self):
        # The last text does all by itself.
        some = [(sign, "", "") + NONE for sign in ",;:."]
        texts = [",\n", ";\n", ":\n", "a,b;c:d.e\n"]
        tree = self.check(some, texts)
        self.assertEqual(tree, ("ask", 3, [("leaf", [place]) for place in range(4)]))
        self.assertEqual(depth_of(self.check(some, texts[:3])), 3)
        self.assertEqual(depth_of(self.check(some, [",;\n", ",:\n"])), 2)
        self.assertEqual(depth_of(self.check(some, ["a,b\n", "a;b\n", "a,b;c\n", "a,b:c\n"])), 2)

    def test_what_is_told_together_need_not_be_parted(self):
        self.assertEqual(tree_of(made([COMMA, QUOTING, SEMI]), ["a,b\n"]),
                         ("ask", 0, [("leaf", [0, 1]), ("leaf", [2])]))

    def test_against_all_trees_of_less_depth(self):
        chance = random.Random(85)
        texts = [text for text in all_texts(",'a \n", 3) if text]
        depths = []
        for again in range(250):
            some = [some_told(chance, ",'^a ") for told in range(chance.randint(0, 6))]
            depths.append(depth_of(self.check(some, chance.choices(texts, k=chance.randint(0, 4)))))
            # With these, which part one sign alone, more texts have to be asked.
            some = [(sign, "", "") + NONE for sign in chance.sample(",;:.-+", chance.randint(2, 6))]
            few = ["".join(chance.sample(",;:.-+", chance.randint(1, 2))) + LINE for text in range(4)]
            depths.append(depth_of(self.check(some, few)))
        self.assertEqual(sorted(set(depths)), [0, 1, 2, 3, 4])

    def test_eight_dialects_and_six_texts(self):
        some = [(sign, "", "") + NONE for sign in ",;:.-+*#"]
        for texts in ([f"a{sign}b\n" for sign in ",;:.-+"], [",;:.\n", ",;-+\n", ",:-*\n", "a\n", "b\n", "c\n"]):
            tree = tree_of(made(some), texts)
            self.assertTrue(model_sorts(some, texts, list(range(8)), tree))
            self.assertIs(sorts(made(some), texts, tree), True)
        # Each of the three texts parts all in halves, and together they tell all eight.
        self.assertEqual(depth_of(tree), 3)
        self.assertEqual(depth_of(tree_of(made(some), [f"a{sign}b\n" for sign in ",;:.-+"])), 6)

    def test_all_small_dialects(self):
        for start in range(0, len(SMALL), 8):
            tree = tree_of(made(SMALL[start:start + 8]), ["'a'\n", "' \n", " '\n", "^\n\n", "''''\n", "a'\n"])
            self.assertTrue(model_sorts(SMALL[start:start + 8], ["'a'\n", "' \n", " '\n", "^\n\n", "''''\n", "a'\n"],
                                        list(range(8)), tree))

    def test_by_name(self):
        tree = tree_of(texts=["a,b\n"], dialects=made([COMMA, SEMI]))
        self.assertEqual(depth_of(tree=tree), 1)
        self.assertIs(sorts(tree=tree, texts=["a,b\n"], dialects=made([COMMA, SEMI])), True)


class Depth(Trees):
    def test_depths(self):
        self.assertEqual(depth_of(("leaf", [])), 0)
        self.assertEqual(depth_of(("leaf", [0, 1])), 0)
        self.assertEqual(depth_of(("ask", 0, [("leaf", [0])])), 1)
        self.assertEqual(depth_of(GOOD), 3)
        self.assertEqual(depth_of(("ask", 0, [("leaf", [0]), GOOD, ("leaf", [1])])), 4)
        self.assertEqual(depth_of(("ask", 0, [GOOD, ("ask", 1, [("leaf", [0])])])), 4)
        self.assertEqual(depth_of(("ask", 0, [("ask", 1, [("leaf", [0])]), GOOD])), 4)
        self.assertEqual(depth_of(nested(LEAF, 12)), 12)


class Sorts(Trees):
    def asked(self, tree, all_told=FOUR, texts=TEXTS):
        answer = sorts(made(all_told), texts, tree)
        self.assertIsInstance(answer, bool)
        return answer

    def yes(self, tree, all_told=FOUR, texts=TEXTS):
        self.assertTrue(self.asked(tree, all_told, texts), repr(tree))

    def no(self, tree, all_told=FOUR, texts=TEXTS):
        self.assertFalse(self.asked(tree, all_told, texts), repr(tree))

    def test_ordinary_trees(self):
        self.yes(GOOD)
        self.no(LEAF)
        self.yes(("ask", 0, [("leaf", [0]), ("leaf", [1])]), [COMMA, SEMI])
        self.yes(("ask", 1, [("ask", 0, [("ask", 2, [("leaf", [0]), ("leaf", [3])]), ("leaf", [1])]), ("leaf", [2])]))

    def test_a_leaf(self):
        self.yes(LEAF, texts=[])
        self.yes(LEAF, texts=["a\n", "a"])
        self.no(LEAF, texts=["a\n", "'\n"])
        for places in ([], [0], [0, 1, 2], [1, 2, 3], [0, 1, 3, 2], [3, 2, 1, 0], [0, 1, 2, 3, 4], [0, 1, 2, 2, 3],
                       [0, 1, 2, 3, 3], [-4, -3, -2, -1], (0, 1, 2, 3), {0: 0, 1: 1, 2: 2, 3: 3}, range(4), "0123",
                       [[0, 1, 2, 3]], [0, True, 2, 3], [False, 1, 2, 3], [0.0, 1, 2, 3], ["0", 1, 2, 3], None,
                       [None, 1, 2, 3], [Anything(), 1, 2, 3], Anything(), 4):
            self.no(("leaf", places), texts=[])

    def test_no_dialects(self):
        for texts in ([], TEXTS):
            self.yes(("leaf", []), [], texts)
            self.no(("ask", 0, []), [], texts)
            self.no(("ask", 0, [("leaf", [])]), [], texts)
            self.no(("leaf", [0]), [], texts)
            self.no((), [], texts)

    def test_a_text_that_parts_nothing_may_be_asked(self):
        self.yes(("ask", 0, [LEAF]), texts=["a\n"])
        self.yes(("ask", 3, [GOOD]), texts=TEXTS + [LINE])
        self.no(("ask", 0, [LEAF, LEAF]), texts=["a\n"])
        # The same text once more: those of one part read it alike.
        self.yes(("ask", 0, [("ask", 0, [("leaf", [0])]), ("ask", 0, [("leaf", [1])])]), [COMMA, SEMI])

    def test_nested_to_twelve(self):
        self.yes(nested(LEAF, 11), texts=["a\n"])
        self.yes(nested(LEAF, 12), texts=["a\n"])
        self.no(nested(LEAF, 11), texts=["a\n", "'\n"])
        self.no(nested(("leaf", [0, 1, 2]), 11), texts=["a\n"])
        self.no(nested(("leaf", None), 11), texts=["a\n"])
        self.no(nested(None, 11), texts=["a\n"])

    def test_branches_that_are_others(self):
        one, other = ("leaf", [0]), ("leaf", [1])
        both = [COMMA, SEMI]
        self.yes(("ask", 0, [one, other]), both)
        for branches in ([], [one], [other], [other, one], [one, one], [other, other], [one, other, one],
                         [one, other, ()], [one, other, ("leaf", [])], (one, other), {0: one, 1: other},
                         iter([one, other]), None, "ab", [one, None], [None, other], [one, [1]],
                         [list(one), list(other)], [[one, other]],
                         [("leaf", [0, 1])], [("leaf", [0, 1]), ("leaf", [])], [("leaf", []), ("leaf", [0, 1])],
                         Anything(), [Anything(), Anything()], [one, Anything()]):
            self.no(("ask", 0, branches), both)

    def test_a_place_left_out_or_twice_or_elsewhere(self):
        for first, last, second, third in (([], [3], [2], [1]), ([0], [], [2], [1]), ([0], [3], [], [1]),
                                           ([0], [3], [2], []), ([0, 0], [3], [2], [1]), ([0], [3, 3], [2], [1]),
                                           ([0], [3], [2], [1, 1]), ([3], [0], [2], [1]), ([0], [2], [3], [1]),
                                           ([0], [3], [1], [2]), ([0], [3], [2, 1], []), ([0, 1], [3], [2], [1])):
            self.no(("ask", 0, [("ask", 1, [("ask", 2, [("leaf", first), ("leaf", last)]), ("leaf", second)]),
                                ("leaf", third)]))

    def test_a_leaf_whose_places_are_read_unlike(self):
        self.no(("ask", 0, [("leaf", [0, 2, 3]), ("leaf", [1])]))
        self.yes(("ask", 0, [("leaf", [0, 2, 3]), ("leaf", [1])]), texts=TEXTS[:1])
        self.no(("ask", 0, [("ask", 1, [("leaf", [0, 3]), ("leaf", [2])]), ("leaf", [1])]))

    def test_the_place_of_a_text(self):
        good = GOOD[2]
        for at in (-1, -3, 1, 2, 3, 2 ** 70, None, "0", 0.0, False, [0], (0,), "a,b\n", Anything()):
            self.no(("ask", at, good))
        some = [COMMA, QUOTING]
        self.yes(("ask", 1, [("leaf", [0]), ("leaf", [1])]), some)
        for at in (True, 1.0, -2, "1", 4, 3, 0, 2):
            self.no(("ask", at, [("leaf", [0]), ("leaf", [1])]), some)
        self.no(("ask", 0, [LEAF]), texts=[])
        self.no(("ask", -1, [LEAF]), texts=[])

    def test_other_things(self):
        forms = [list(LEAF), ("leaf",), ("ask",), LEAF + ([],), ("ask", 0), GOOD + (0,), ("Leaf", LEAF[1]),
                 ("", LEAF[1]), ("leaf", LEAF[1], []), (LEAF,), [LEAF], (LEAF, LEAF), ("ask", LEAF[1]),
                 ("leaf", 0, [LEAF]),
                 (None, LEAF[1]), (Anything(), LEAF[1]), (Anything(), 0, [LEAF]), ("leaf", LEAF), ["ask", 0, [LEAF]],
                 ("ask", [LEAF], 0), Anything()]
        for thing in things_but_texts() + things_but_lists() + forms:
            self.no(thing, texts=["a\n"])
            self.no(thing, texts=[])
            self.no(("ask", 0, [thing]), texts=["a\n"])
            self.no(nested(thing, 11), texts=["a\n"])
            self.no(("leaf", thing), texts=["a\n"])

    def test_each_part_of_a_good_tree_exchanged(self):
        for thing in things_but_texts() + ["", "Leaf", Anything()]:
            self.no((thing, 0, GOOD[2]))
            self.no(("ask", 0, [thing, ("leaf", [1])]))
            self.no(("ask", 0, [GOOD[2][0], thing]))
            self.no(("ask", 0, [GOOD[2][0], ("leaf", thing)]))
            self.no(("ask", 0, [GOOD[2][0], (thing, [1])]))
            if thing != 1 or isinstance(thing, bool):
                self.no(("ask", 0, [GOOD[2][0], ("leaf", [thing])]))
            if thing != 0 or isinstance(thing, bool):
                self.no(("ask", thing, GOOD[2]))

    def test_against_all_trees_of_three(self):
        found = 0
        for some in ([COMMA, SEMI, QUOTING], [COMMA, COMMA, SEMI], [COMMA, SEMI, COMMA]):
            for tree in any_trees([0, 1, 2], 2, 1):
                wanted = model_sorts(some, TEXTS[:2], [0, 1, 2], tree)
                found += wanted
                self.assertIs(self.asked(tree, some, TEXTS[:2]), wanted, tree)
        for tree in any_trees([0, 1], 2, 2)[::7]:
            self.assertIs(self.asked(tree, [COMMA, SEMI], TEXTS[:2]),
                          model_sorts([COMMA, SEMI], TEXTS[:2], [0, 1], tree), tree)
        self.assertGreater(found, 1)

    def test_against_all_sorting_trees(self):
        for tree in sorting_trees(FOUR, TEXTS, [0, 1, 2, 3], 3):
            self.yes(tree)
        self.assertIn(GOOD, sorting_trees(FOUR, TEXTS, [0, 1, 2, 3], 3))
        for tree in sorting_trees(FOUR[:3], TEXTS[:2], [0, 1, 2], 3):
            self.yes(tree, FOUR[:3], TEXTS[:2])
            self.no(tree, FOUR)
            self.no(tree, FOUR[:3], [])

    def test_what_is_handed_in_stays(self):
        tree, texts, dialects = copy.deepcopy(GOOD), list(TEXTS), made(FOUR)
        kept = list(dialects)
        self.assertIs(sorts(dialects, texts, tree), True)
        self.assertEqual((tree, texts, dialects), (GOOD, TEXTS, kept))
        self.assertEqual(depth_of(tree), 3)
        self.assertEqual(tree, GOOD)
        tree[2].pop()
        self.assertIs(sorts(dialects, texts, tree), False)


class Refused(Trees):
    def test_eight_and_nine_dialects(self):
        self.assertEqual(tree_of(made([COMMA] * 8), TEXTS), ("leaf", list(range(8))))
        for many in (9, 10, 24):
            self.assertEqual(refusal(tree_of, made([COMMA] * many), TEXTS), (TooMany, 8))
            self.assertEqual(refusal(tree_of, made([COMMA] * many), []), (TooMany, 8))

    def test_six_and_seven_texts(self):
        self.assertIsNone(refusal(tree_of, made(FOUR), TEXTS * 2))
        for some in (FOUR, [COMMA], []):
            self.assertEqual(refusal(tree_of, made(some), TEXTS * 2 + [""]), (TooMany, 6))
            self.assertEqual(refusal(tree_of, made(some), ["a\n"] * 60), (TooMany, 6))

    def test_what_is_no_text(self):
        things = things_but_texts() + ["a" * 2001, "a\n" * 1001, LINE * 2001] + ["a" + sign for sign in NO_SIGNS]
        for some in (FOUR, [COMMA], [], FOUR * 2):
            for thing in things:
                for texts in ([thing], [thing] + TEXTS, TEXTS + [thing], TEXTS + ["", "", thing]):
                    self.assertEqual(refusal(tree_of, made(some), texts), (NoText,), repr(thing)[:100])
        self.assertIsNone(refusal(tree_of, made(FOUR), ["a" * 2000, LINE * 2000]))

    def test_the_order(self):
        for texts in (TEXTS, ["a"] * 7, [None] * 7, [None], ["a", 7]):
            self.assertEqual(refusal(tree_of, made([COMMA] * 9), texts), (TooMany, 8))
        for some in (FOUR, FOUR * 2, []):
            for texts in (["a"] * 7, [None] * 7, ["a"] * 6 + [None]):
                self.assertEqual(refusal(tree_of, made(some), texts), (TooMany, 6))
            self.assertEqual(refusal(tree_of, made(some), [None] * 6), (NoText,))

    def test_nothing_is_changed(self):
        texts = TEXTS + [None]
        self.assertEqual(refusal(tree_of, made(FOUR), texts), (NoText,))
        self.assertEqual(texts, TEXTS + [None])
        self.assertEqual(self.check(FOUR, TEXTS), self.check(FOUR, TEXTS))


class AskersOwn(Trees):
    def test_told_lists(self):
        dialects, texts = made(FOUR), list(TEXTS)
        first, second = tree_of(dialects, texts), tree_of(dialects, texts)
        kept = copy.deepcopy(second)
        self.spoil(first)
        self.assertEqual(second, kept)
        self.assertEqual(tree_of(dialects, texts), kept)
        self.assertEqual((texts, [dialect.told() for dialect in dialects]), (TEXTS, FOUR))
        dialects.clear()
        texts.clear()
        self.assertEqual(second, kept)

    def spoil(self, tree):
        if tree[0] == "leaf":
            tree[1].append(9)
            return
        for branch in tree[2]:
            self.spoil(branch)
        tree[2].clear()

    def test_lists_of_one_tree(self):
        tree = tree_of(made(FOUR * 2), TEXTS)
        lists = []
        self.gather(tree, lists)
        for place, one in enumerate(lists):
            self.assertFalse(any(one is other for other in lists[:place]))

    def gather(self, tree, lists):
        lists.append(tree[-1])
        for branch in tree[2] if tree[0] == "ask" else []:
            self.gather(branch, lists)

    def test_a_told_leaf(self):
        for dialects in (made([COMMA] * 3), []):
            first, second = tree_of(dialects, []), tree_of(dialects, [])
            first[1].append(5)
            self.assertEqual(second, ("leaf", list(range(len(dialects)))))
            self.assertEqual(tree_of(dialects, []), second)

    def test_dialects_are_only_read(self):
        dialect = Dialect(",")
        tree_of([dialect, dialect], ["a,b\n"])
        self.assertEqual(dialect.told(), COMMA)


if __name__ == "__main__":
    unittest.main()
