import itertools
import random
import unittest

from samples import (
    P, Q, WRITINGS, YARDS, drawn_saying, drawn_yard, is_of_tuples, said, sayings_to_depth, shown, wrapped,
)
from worldyard.judging import judged
from worldyard.plains import denied
from worldyard.reading import read
from worldyard.things import is_own, is_yard
from worldyard.trees import shows
from worldyard.truth import everywhere, holds

# Sayings that hold in every world of all yards.
HOLD = [
    "or p not p",
    "or not p p",
    "or not rain rain",
    "not and p not p",
    "or or p q not p",
    "or p or q not p",
    "or not and p q p",
    "or not and p q q",
    "or not p or p q",
    "or not and or p q not p q",
    "or and p q or not p not q",
    "or and not p not q or p q",
    "or or not p and p q not q",
    "or all 0 p not all 0 p",
    "or some 2 and p not q not some 2 and p not q",
    "or all 0 p some 0 not p",
    "or some 1 p all 1 not p",
    "all 0 or p not p",
    "all 2 all 1 or p not p",
    "not some 0 and p not p",
    "not some 1 some 2 and p not p",
    "all 0 not some 0 and p not p",
    "or not all 0 p all 0 or p q",
    "or not all 1 or not p q or not all 1 p all 1 q",
    "or not and all 2 p all 2 q all 2 and p q",
    "or not all 2 and p q and all 2 p all 2 q",
    "or not some 0 or p q or some 0 p some 0 q",
    "or not and some 0 p all 0 q some 0 and p q",
    "or not some 0 and p q and some 0 p some 0 q",
    "or not or all 1 p all 1 q all 1 or p q",
    "or not and all 0 all 1 p some 0 some 1 q some 0 some 1 and p q",
    "or not all 0 some 1 p not some 0 all 1 not p",
    "or not and some 0 p and all 0 or not p q all 0 not q some 2 r",
    "or all 0 p or some 0 q some 0 and not p not q",
    "all 0 or all 1 p some 1 not p",
    "or or all 0 p some 0 not p some 1 q",
]

# Sayings that hold in every world of own yards, but not of all yards.
HOLD_IN_OWN = [
    "or not all 0 p p",
    "or not all 1 p p",
    "or not all 2 p p",
    "or not p some 0 p",
    "or not p some 2 p",
    "some 0 or p not p",
    "not all 1 and p not p",
    "or not all 0 all 1 p p",
    "or not all 0 all 0 p all 0 p",
    "or not all 0 all 1 p all 1 p",
    "or not all 0 all 1 p all 0 p",
    "or not some 1 p some 1 some 1 p",
    "or not p some 0 some 1 some 2 p",
    "or not all 0 p some 0 p",
    "or not all 0 p some 1 p",
    "or some 0 p some 0 not p",
    "some 0 or not p all 0 or p q",
    "all 0 or not all 1 p p",
    "or not all 0 or p q or p q",
    "or not and all 0 not p all 1 or p q q",
    "or not all 0 and p all 1 q and p q",
    "or not some 0 all 1 p some 0 p",
    "some 0 or not p all 2 or p some 1 not p",
    "or not all 0 or not p all 0 q or not p all 0 q",
]

# Sayings that fail somewhere, in own yards too.
FAIL = [
    "p",
    "not p",
    "and p not p",
    "and p q",
    "or p q",
    "or p not q",
    "all 0 p",
    "some 0 p",
    "not all 0 p",
    "not some 2 p",
    "and all 0 p some 0 not p",
    "some 0 and p not p",
    "or not p all 0 p",
    "or not some 0 p p",
    "or not some 0 p all 0 p",
    "or not all 0 p all 1 p",
    "or not some 0 p some 1 p",
    "or not all 0 p all 0 all 0 p",
    "or not some 0 some 0 p some 0 p",
    "or not p all 0 some 0 p",
    "or not some 0 p all 0 some 0 p",
    "or not some 0 all 0 p all 0 some 0 p",
    "or not all 0 some 0 p some 0 all 0 p",
    "or not all 0 or p q or all 0 p all 0 q",
    "or not and some 0 p some 0 q some 0 and p q",
    "or not all 0 all 1 p all 1 all 0 p",
    "or not some 0 some 1 p some 1 some 0 p",
    "or not and some 0 p all 1 q some 0 and p q",
    "and or p not p or p q",
    "or and p q and not p not q",
]


class Judged(unittest.TestCase):
    def check(self, saying, own):
        """What is told, by its head; that it is right is seen here, not taken from the program alone."""
        told = judged(saying, own)
        where = (saying, own)
        self.assertIs(type(told), tuple, where)
        self.assertEqual(len(told), 2, where)
        self.assertIn(told[0], ("holds", "fails"), where)
        self.assertTrue(is_of_tuples(told), where)
        if told[0] == "holds":
            self.assertIs(shows(told[1], (denied(saying),), own), True, where)
        else:
            self.assertIs(is_yard(told[1]), True, where)
            self.assertTrue(own == 0 or is_own(told[1]) is True, where)
            self.assertIs(holds(told[1], 0, saying), False, where)
        return told

    def check_straight(self, saying, own):
        """As check, and once more without the program's own shows and holds."""
        told = self.check(saying, own)
        if told[0] == "holds":
            self.assertTrue(shown(told[1], (denied(saying),), own), (saying, own))
        else:
            self.assertFalse(said(told[1], 0, saying), (saying, own))
        return told[0]

    def test_sayings_that_hold_in_all_yards(self):
        for text in HOLD:
            for own in (0, 1):
                self.assertEqual(self.check_straight(read(text), own), "holds", (text, own))

    def test_sayings_that_hold_in_own_yards(self):
        for text in HOLD_IN_OWN:
            self.assertEqual(self.check_straight(read(text), 0), "fails", text)
            self.assertEqual(self.check_straight(read(text), 1), "holds", text)

    def test_sayings_that_fail(self):
        for text in FAIL:
            for own in (0, 1):
                self.assertEqual(self.check_straight(read(text), own), "fails", (text, own))

    def test_each_head_is_among_the_trees(self):
        found = {head for text in HOLD for head in all_heads(judged(read(text), 0)[1])}
        self.assertEqual(found, {"clash", "both", "either", "step"})
        found = {head for text in HOLD_IN_OWN for head in all_heads(judged(read(text), 1)[1])}
        self.assertEqual(found, {"clash", "both", "either", "self", "step"})

    def test_what_is_told_does_not_hang_on_the_form_alone(self):
        for text in HOLD + HOLD_IN_OWN + FAIL:
            saying = read(text)
            for own in (0, 1):
                expected = judged(saying, own)[0]
                for like in (
                    ("not", ("not", saying)), ("and", saying, saying), ("or", saying, saying), denied(("not", saying)),
                    ("or", ("and", P, ("not", P)), saying), ("and", saying, ("or", Q, ("not", Q))),
                    ("or", saying, ("some", 1, ("and", Q, ("not", Q)))),
                ):
                    self.assertEqual(self.check_straight(like, own), expected, (like, own))

    def test_what_holds_everywhere_holds_wherever_ways_lead(self):
        for text in HOLD + HOLD_IN_OWN + FAIL:
            for own, kind in itertools.product((0, 1), (0, 1, 2)):
                expected = judged(read(text), own)[0]
                self.assertEqual(self.check_straight(("all", kind, read(text)), own), expected, (text, own))

    def test_the_not_of_what_holds_fails(self):
        for text in HOLD + HOLD_IN_OWN:
            self.assertEqual(self.check_straight(("not", read(text)), 1), "fails", text)
        for text in HOLD:
            self.assertEqual(self.check_straight(("not", read(text)), 0), "fails", text)

    def test_what_holds_holds_in_each_yard(self):
        yards = YARDS + [drawn_yard(random.Random(seed), 4, seed % 2) for seed in range(40)]
        for yard in yards:
            for text in HOLD:
                self.assertIs(everywhere(yard, read(text)), True, (yard, text))
            if is_own(yard):
                for text in HOLD_IN_OWN:
                    self.assertIs(everywhere(yard, read(text)), True, (yard, text))

    def test_all_small_sayings(self):
        counts = {"holds": 0, "fails": 0}
        for saying in sayings_to_depth(2):
            for own in (0, 1):
                counts[self.check_straight(saying, own)] += 1
        self.assertGreater(min(counts.values()), 10)

    def test_drawn_sayings_up_to_four_deep_and_more(self):
        source = random.Random(20)
        counts = {"holds": 0, "fails": 0}
        for depth in (2, 3, 4, 4, 4, 5, 6):
            for _ in range(120):
                kinds = source.choice(((0,), (0, 1), (0, 1, 2)))
                saying = drawn_saying(source, depth, ("p", "q"), kinds)
                other = drawn_saying(source, depth, ("p", "q"), kinds)
                for own in (0, 1):
                    for asked in (saying, ("or", saying, other), ("not", ("and", saying, other))):
                        head = self.check_straight(asked, own)
                        counts[head] += 1
                        if head == "holds":
                            self.assertEqual(self.check_straight(("not", asked), own), "fails", asked)
        self.assertGreater(min(counts.values()), 300)

    def test_what_holds_in_all_yards_holds_in_own_ones(self):
        source = random.Random(21)
        for _ in range(300):
            saying = ("or", drawn_saying(source, 4), drawn_saying(source, 4))
            if judged(saying, 0)[0] == "holds":
                self.assertEqual(judged(saying, 1)[0], "holds", saying)

    def test_never_both_are_told_and_drawn_yards_say_the_same(self):
        source = random.Random(22)
        for _ in range(200):
            saying = ("or", drawn_saying(source, 3, ("p",), (0,)), drawn_saying(source, 3, ("p",), (0,)))
            for own in (0, 1):
                head = judged(saying, own)[0]
                for _ in range(10):
                    yard = drawn_yard(source, 3, own)
                    if head == "holds":
                        self.assertIs(everywhere(yard, saying), True, (yard, saying))

    def test_a_saying_or_its_not(self):
        for depth in range(31):
            for inner in (P, ("not", Q), ("and", P, ("not", P))):
                saying = wrapped(inner, depth)
                for own in (0, 1):
                    self.assertEqual(self.check(("or", saying, ("not", saying)), own)[0], "holds")
                    self.assertEqual(self.check(("or", ("not", saying), saying), own)[0], "holds")
                    self.assertEqual(self.check(("and", saying, ("not", saying)), own)[0], "fails")

    def test_writings(self):
        for saying, text in WRITINGS:
            for own in (0, 1):
                self.check_straight(saying, own)
                self.check_straight(("or", saying, denied(saying)), own)

    def test_names_stand_in_their_order_in_the_yard(self):
        names = ("z", "ab", "b", "a", "name", "no")
        saying = ("name", "c")
        for name in names:
            saying = ("or", ("not", ("name", name)), saying)
        for own in (0, 1):
            told = self.check(saying, own)
            self.assertEqual(told[0], "fails")
            self.assertEqual(told[1][0][0], tuple(sorted(names)))

    def test_a_saying_within_a_hundred_others_and_some_more(self):
        for depth in (100, 130):
            for inner in (P, ("or", Q, ("not", Q))):
                saying = wrapped(inner, depth)
                for own in (0, 1):
                    self.check(saying, own)
                    self.assertEqual(self.check(("or", saying, ("not", saying)), own)[0], "holds")
            for heads in ("a", "s", "as", "aas", "ssa", "aoss"):
                for own in (0, 1):
                    weak = long_saying(("or", P, Q), heads, depth)
                    strong = long_saying(P, heads, depth)
                    self.assertEqual(self.check(("or", ("not", strong), weak), own)[0], "holds", (heads, own))
                    self.assertEqual(self.check(("or", strong, ("not", weak)), own)[0], "fails", (heads, own))
                    self.assertEqual(self.check(strong, own)[0], "fails", (heads, own))

    def test_many_ors_in_one_world(self):
        names = ["".join(signs) for signs in itertools.product("abcdefg", repeat=3)]
        ors = [("or", ("name", one), ("not", ("name", other))) for one, other in zip(names, names[1:])]
        every = balanced("and", [("name", names[-1])] + ors)
        for own in (0, 1):
            self.assertEqual(self.check(("not", every), own)[0], "fails")
            self.assertEqual(self.check(("or", ("not", every), ("name", "aaa")), own)[0], "holds")
            self.assertEqual(self.check(("or", ("not", every), ("name", "z")), own)[0], "fails")

    def test_pigeons_and_holes(self):
        for holes in (1, 2, 3):
            pigeons = range(holes + 1)
            placed = [balanced("or", [pigeon(k, hole) for hole in range(holes)]) for k in pigeons]
            apart = [
                ("not", ("and", pigeon(one, hole), pigeon(other, hole)))
                for hole in range(holes) for one, other in itertools.combinations(pigeons, 2)
            ]
            for own in (0, 1):
                crowded = ("not", balanced("and", placed + apart))
                self.assertEqual(self.check(crowded, own)[0], "holds")
                self.assertEqual(self.check(("not", balanced("and", placed[1:] + apart)), own)[0], "fails")
                self.assertEqual(self.check(("all", 1, crowded), own)[0], "holds")

    def test_what_is_not_needed_is_left_out_of_the_tree(self):
        names = [("name", "x" + sign) for sign in "abcdefghijklmnopqrst"]
        idle = [("and", one, ("all", 0, other)) for one, other in zip(names, names[1:])]
        idle += [("or", one, ("some", 1, other)) for one, other in zip(names, names[1:])]
        idle += [("all", 2, ("or", one, other)) for one, other in zip(names, names[1:])]
        for clash in (("and", P, ("not", P)), ("and", ("some", 2, P), ("all", 2, ("not", P)))):
            for row in ([clash] + idle, idle + [clash]):
                saying = ("not", balanced("and", row))
                for own in (0, 1):
                    told = self.check(saying, own)
                    self.assertEqual(told[0], "holds")
                    self.assertLess(len(all_heads(told[1])), 12)

    def test_nothing_is_changed_and_the_same_is_told_again(self):
        for text in HOLD + HOLD_IN_OWN + FAIL:
            saying = read(text)
            for own in (0, 1):
                first = judged(saying, own)
                self.assertEqual(judged(read(text), own), first)
                self.assertEqual(repr(judged(saying, own)), repr(first))
                self.assertEqual(saying, read(text))


def long_saying(inner, heads, depth):
    """The saying within as many others, all, some and or in turn."""
    for step in range(depth):
        head = heads[step % len(heads)]
        if head == "o":
            inner = ("or", ("and", Q, ("not", Q)), inner)
        else:
            inner = ({"a": "all", "s": "some"}[head], step % 2, inner)
    return inner


def balanced(head, sayings):
    while len(sayings) > 1:
        half = len(sayings) // 2
        sayings = [(head, one, other) for one, other in zip(sayings[:half], sayings[half:])] + sayings[2 * half:]
    return sayings[0]


def all_heads(tree):
    """The heads of all trees that lie in the tree, its own too."""
    return [tree[0]] + [head for inner in tree[2:] for head in all_heads(inner)]


def pigeon(number, hole):
    return ("name", "abcdef"[number] + "uvwxyz"[hole])


if __name__ == "__main__":
    unittest.main()
