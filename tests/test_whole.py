"""What the document promises over the whole program, and its interface."""

import importlib
import inspect
import itertools
import random
import unittest

from samples import P, Q, WRITINGS, YARDS, drawn_saying, drawn_yard, is_of_tuples
from worldyard.changing import beside, part_of, reached, renamed, told_to_all
from worldyard.errors import NoSaying, NoWorld, YardError
from worldyard.judging import judged
from worldyard.likeness import folded, likeness, telling
from worldyard.plains import deep, denied, plain
from worldyard.reading import read
from worldyard.things import is_own, is_saying, is_yard
from worldyard.trees import shows
from worldyard.truth import everywhere, holds
from worldyard.writing import written

# Each file with the names that it promises and their arguments.
INTERFACE = {
    "things": {"is_saying": ["thing"], "is_yard": ["thing"], "is_own": ["yard"]},
    "writing": {"written": ["saying"]},
    "reading": {"read": ["text"]},
    "truth": {"holds": ["yard", "world", "saying"], "everywhere": ["yard", "saying"]},
    "plains": {"plain": ["saying"], "denied": ["saying"], "deep": ["saying"]},
    "trees": {"shows": ["tree", "sayings", "own"]},
    "judging": {"judged": ["saying", "own"]},
    "likeness": {"likeness": ["yard"], "folded": ["yard"], "telling": ["yard", "one", "other"]},
    "changing": {
        "reached": ["yard", "world"], "part_of": ["yard", "world"], "told_to_all": ["yard", "saying"],
        "beside": ["one", "other"], "renamed": ["yard", "places"],
    },
}


def drawn_sayings(count, depth):
    source = random.Random(60)
    return [drawn_saying(source, depth) for _ in range(count)] + [saying for saying, text in WRITINGS]


def drawn_yards(count):
    source = random.Random(61)
    return YARDS[:-1] + [drawn_yard(source, source.choice((1, 2, 3, 4)), k % 2) for k in range(count)]


class Interface(unittest.TestCase):
    def test_names_and_arguments(self):
        for file, names in INTERFACE.items():
            module = importlib.import_module(f"worldyard.{file}")
            for name, arguments in names.items():
                function = getattr(module, name)
                self.assertEqual(list(inspect.signature(function).parameters), arguments, name)
                self.assertEqual(function.__module__, module.__name__, name)

    def test_arguments_by_name(self):
        yard = YARDS[6]
        self.assertIs(shows(tree=("clash", "p"), sayings=(P, ("not", P)), own=0), True)
        self.assertEqual(judged(saying=P, own=0)[0], "fails")
        self.assertEqual(likeness(yard=yard), (0, 1))
        self.assertEqual(folded(yard=yard), yard)
        self.assertTrue(is_saying(telling(yard=yard, one=0, other=1)))
        self.assertEqual(reached(yard=yard, world=0), (0, 1))
        self.assertEqual(part_of(yard=yard, world=0), yard)
        self.assertEqual(len(told_to_all(yard=yard, saying=P)), 1)
        self.assertEqual(len(beside(one=yard, other=yard)), 4)
        self.assertEqual(renamed(yard=yard, places=(0, 1)), yard)

    def test_truths_are_truths_themselves(self):
        yard = YARDS[6]
        for told in (
            is_saying(P), is_yard(yard), is_own(yard), holds(yard, 0, P), everywhere(yard, P),
            shows(("clash", "p"), (P,), 0), shows(None, (), 1),
        ):
            self.assertIs(type(told), bool)


class Whole(unittest.TestCase):
    def test_a_a_tree_or_a_yard_and_never_both(self):
        source = random.Random(62)
        yards = drawn_yards(40)
        for saying in drawn_sayings(150, 4):
            for own in (0, 1):
                for asked in (saying, ("or", saying, drawn_saying(source, 3)), ("or", saying, denied(saying))):
                    head, thing = judged(asked, own)
                    if head == "holds":
                        self.assertIs(shows(thing, (denied(asked),), own), True, asked)
                        for yard in yards:
                            if own == 0 or is_own(yard):
                                self.assertIs(everywhere(yard, asked), True, (yard, asked))
                    else:
                        self.assertEqual(head, "fails")
                        self.assertTrue(is_yard(thing) and (own == 0 or is_own(thing)), asked)
                        self.assertIs(everywhere(thing, asked), False, asked)
                        self.assertIs(holds(thing, 0, asked), False, asked)

    def test_a_what_is_shown_of_rows_holds_in_no_world(self):
        for saying in drawn_sayings(100, 4):
            for own in (0, 1):
                head, thing = judged(saying, own)
                if head == "fails":
                    for tree in (("clash", "p"), ("clash", "q"), thing):
                        self.assertIs(shows(tree, (denied(saying),), own), False, (tree, saying))

    def test_b_folded_together_or_told_apart(self):
        sayings = drawn_sayings(60, 4)
        for yard in drawn_yards(40):
            least = likeness(yard)
            for one, other in itertools.product(range(len(yard)), repeat=2):
                if least[one] == least[other]:
                    for saying in sayings:
                        self.assertIs(holds(yard, one, saying), holds(yard, other, saying), (yard, one, other, saying))
                    self.assertRaises(NoSaying, telling, yard, one, other)
                else:
                    saying = telling(yard, one, other)
                    self.assertIs(holds(yard, one, saying), True, (yard, one, other))
                    self.assertIs(holds(yard, other, saying), False, (yard, one, other))
            fold = folded(yard)
            for one, other in itertools.permutations(range(len(fold)), 2):
                self.assertTrue(holds(fold, one, telling(fold, one, other)), (yard, one, other))

    def test_b_the_folded_worlds_are_like_those_folded_into_them(self):
        for yard in drawn_yards(40):
            least = likeness(yard)
            kept = sorted(set(least))
            both = likeness(beside(yard, folded(yard)))
            for number in range(len(yard)):
                self.assertEqual(both[len(yard) + kept.index(least[number])], least[number], yard)

    def test_c_plain_forms(self):
        for yard in drawn_yards(15):
            for saying in drawn_sayings(40, 4):
                for world in range(len(yard)):
                    expected = holds(yard, world, saying)
                    self.assertIs(holds(yard, world, plain(saying)), expected, (yard, saying))
                    self.assertIs(holds(yard, world, denied(saying)), not expected, (yard, saying))

    def test_c_a_saying_and_its_plain_form_are_judged_alike(self):
        for saying in drawn_sayings(100, 4):
            for own in (0, 1):
                self.assertEqual(judged(saying, own)[0], judged(plain(saying), own)[0], saying)
                self.assertEqual(judged(("or", ("not", saying), plain(saying)), own)[0], "holds", saying)
                self.assertEqual(judged(("or", saying, ("not", plain(saying))), own)[0], "holds", saying)

    def test_d_told_to_all(self):
        for yard in drawn_yards(30):
            for saying in drawn_sayings(20, 3):
                kept = [world for world in range(len(yard)) if holds(yard, world, saying)]
                if not kept:
                    self.assertRaises(NoWorld, told_to_all, yard, saying)
                    continue
                left = told_to_all(yard, saying)
                for told in drawn_sayings(10, 2):
                    for place, world in enumerate(kept):
                        expected = holds(yard, world, as_told(saying, told))
                        self.assertIs(holds(left, place, told), expected, (yard, saying, told))

    def test_e_other_names_and_other_worlds_change_nothing(self):
        source = random.Random(63)
        for yard in drawn_yards(30):
            places = list(range(len(yard)))
            source.shuffle(places)
            more = drawn_yard(source, 2)
            for world in range(len(yard)):
                place = places[world]
                for saying in drawn_sayings(15, 4):
                    expected = holds(yard, world, saying)
                    self.assertIs(holds(renamed(yard, tuple(places)), place, saying), expected)
                    self.assertIs(holds(beside(yard, more), world, saying), expected)
                    self.assertIs(holds(beside(more, yard), len(more) + world, saying), expected)
                    self.assertIs(holds(part_of(yard, world), 0, saying), expected)

    def test_e_all_of_these_are_like(self):
        for yard in drawn_yards(30):
            size = len(yard)
            places = tuple(range(size))[::-1]
            self.assertEqual(likeness(beside(yard, yard))[size:], likeness(yard))
            told = likeness(beside(yard, renamed(yard, places)))
            self.assertEqual([told[size + places[world]] for world in range(size)], list(likeness(yard)))
            for world in range(size):
                self.assertEqual(likeness(beside(yard, part_of(yard, world)))[size], likeness(yard)[world])

    def test_all_things_are_tuples_texts_and_whole_numbers(self):
        for yard in drawn_yards(20):
            self.assertTrue(is_of_tuples((likeness(yard), folded(yard), beside(yard, yard), reached(yard, 0))))
            self.assertTrue(is_of_tuples((part_of(yard, 0), renamed(yard, tuple(range(len(yard)))))))
        for saying in drawn_sayings(60, 4):
            self.assertTrue(is_of_tuples((plain(saying), denied(saying), deep(saying), read(written(saying)))))
            for own in (0, 1):
                self.assertTrue(is_of_tuples(judged(saying, own)))

    def test_asked_in_another_order_the_same_is_told(self):
        sayings = drawn_sayings(40, 4)
        first = [judged(saying, own) for saying in sayings for own in (0, 1)]
        backward = [judged(saying, own) for saying in reversed(sayings) for own in (1, 0)]
        self.assertEqual(first, backward[::-1])
        yards = drawn_yards(20)
        self.assertEqual([folded(yard) for yard in yards], [folded(yard) for yard in reversed(yards)][::-1])

    def test_every_refusal_is_a_yard_error(self):
        yard = YARDS[5]
        for asked in (
            lambda: telling(yard, 0, 1), lambda: telling(yard, 0, 3), lambda: reached(yard, -1),
            lambda: part_of(yard, 3), lambda: told_to_all(yard, Q), lambda: holds(yard, 3, P),
        ):
            self.assertRaises(YardError, asked)


def as_told(told, saying):
    """The saying in which all and some speak of those worlds alone where what is told holds."""
    head = saying[0]
    if head == "name":
        return saying
    if head == "not":
        return (head, as_told(told, saying[1]))
    if head in ("and", "or"):
        return (head, as_told(told, saying[1]), as_told(told, saying[2]))
    part = as_told(told, saying[2])
    if head == "all":
        return (head, saying[1], ("or", ("not", told), part))
    return (head, saying[1], ("and", told, part))


if __name__ == "__main__":
    unittest.main()
