import itertools
import unittest

from samples import LEADS_TO_ITSELF, LONE, P, Q, WRITINGS, YARDS, said, sayings_to_depth, wrapped
from worldyard.errors import NoSaying, NoText, NoWorld, YardError
from worldyard.things import is_yard
from worldyard.truth import everywhere, holds

# World 0 has several ways of kind 0, one of kind 1, none of kind 2; each kind leads elsewhere from each world.
YARD = (
    (("p",), ((1, 2), (3,), ())),
    (("p", "q"), ((), (0, 1), (2,))),
    (("q",), ((2,), (), (0, 1, 3))),
    ((), ((0, 1, 2, 3), (3,), ())),
)

# Each with the worlds of YARD in which it holds.
TOLD = [
    (P, (0, 1)),
    (Q, (1, 2)),
    (("name", "r"), ()),
    (("name", "pq"), ()),
    (("not", P), (2, 3)),
    (("not", ("name", "r")), (0, 1, 2, 3)),
    (("not", ("not", P)), (0, 1)),
    (("and", P, Q), (1,)),
    (("and", P, ("not", Q)), (0,)),
    (("and", ("not", P), Q), (2,)),
    (("or", P, Q), (0, 1, 2)),
    (("or", P, ("not", Q)), (0, 1, 3)),
    (("or", ("not", P), Q), (1, 2, 3)),
    (("all", 0, P), (1,)),
    (("all", 0, Q), (0, 1, 2)),
    (("all", 1, P), (1, 2)),
    (("all", 1, Q), (2,)),
    (("all", 2, P), (0, 3)),
    (("all", 2, Q), (0, 1, 3)),
    (("some", 0, P), (0, 3)),
    (("some", 0, Q), (0, 2, 3)),
    (("some", 1, P), (1,)),
    (("some", 1, Q), (1,)),
    (("some", 2, P), (2,)),
    (("some", 2, Q), (1, 2)),
    (("all", 0, ("and", P, ("not", P))), (1,)),
    (("all", 1, ("and", P, ("not", P))), (2,)),
    (("all", 2, ("and", P, ("not", P))), (0, 3)),
    (("some", 0, ("or", P, ("not", P))), (0, 2, 3)),
    (("some", 1, ("or", P, ("not", P))), (0, 1, 3)),
    (("some", 2, ("or", P, ("not", P))), (1, 2)),
    (("not", ("all", 0, P)), (0, 2, 3)),
    (("not", ("some", 1, Q)), (0, 2, 3)),
    (("all", 0, ("some", 2, P)), (1, 2)),
    (("some", 0, ("all", 2, P)), (3,)),
    (("all", 2, ("all", 1, P)), (0, 1, 3)),
    (("some", 2, ("some", 1, P)), (2,)),
    (("some", 1, ("and", P, ("all", 0, Q))), (1,)),
    (("and", ("some", 0, P), ("all", 1, ("or", Q, ("some", 1, ("not", P))))), (0, 3)),
]


def yards_of_two():
    """Every yard of two worlds, the first with p, the second with q, with ways of kinds 0 and 2 alone."""
    rows = ((), (0,), (1,), (0, 1))
    for one in itertools.product(rows, repeat=2):
        for other in itertools.product(rows, repeat=2):
            yield ((("p",), (one[0], (), one[1])), (("q",), (other[0], (), other[1])))


def chain(length):
    """Each world leads to the next one by kind 0, the last one to none; p holds in the last one alone."""
    worlds = [((), ((k + 1,), (), ())) for k in range(length - 1)]
    return tuple(worlds) + ((("p",), ((), (), ())),)


class Holds(unittest.TestCase):
    def test_the_yard_of_the_table_is_one(self):
        self.assertTrue(is_yard(YARD))

    def test_each_form_at_each_world(self):
        for saying, worlds in TOLD:
            for world in range(len(YARD)):
                self.assertIs(holds(YARD, world, saying), world in worlds, (world, saying))

    def test_where_no_way_leads_all_holds_and_some_does_not(self):
        for yard in ((LONE,), (LEADS_TO_ITSELF, LONE)):
            last = len(yard) - 1
            for kind in (0, 1, 2):
                for saying in sayings_to_depth(1):
                    self.assertIs(holds(yard, last, ("all", kind, saying)), True, saying)
                    self.assertIs(holds(yard, last, ("some", kind, saying)), False, saying)

    def test_one_way_tells_all_and_some_alike(self):
        for kind in (0, 1, 2):
            ways = [(), (), ()]
            ways[kind] = (1,)
            for names in ((), ("p",)):
                yard = (((), tuple(ways)), (names, ((), (), ())))
                for head in ("all", "some"):
                    self.assertIs(holds(yard, 0, (head, kind, P)), names == ("p",), (head, kind))

    def test_ways_of_other_kinds_do_not_count(self):
        for kind, asked in itertools.product((0, 1, 2), repeat=2):
            ways = [(), (), ()]
            ways[kind] = (1,)
            yard = (((), tuple(ways)), (("p",), ((), (), ())))
            self.assertIs(holds(yard, 0, ("some", asked, P)), kind == asked)
            self.assertIs(holds(yard, 0, ("all", asked, ("not", P))), kind != asked)

    def test_all_asks_for_each_world_and_some_for_one(self):
        for spots in itertools.product((True, False), repeat=4):
            others = tuple([(("p",) if spot else (), ((), (), ())) for spot in spots])
            yard = (((), ((), (1, 2, 3, 4), ())),) + others
            self.assertIs(holds(yard, 0, ("all", 1, P)), all(spots))
            self.assertIs(holds(yard, 0, ("some", 1, P)), any(spots))

    def test_ways_are_followed_as_they_lead_and_not_back(self):
        yard = ((("p",), ((1,), (), ())), (("q",), ((), (), ())))
        self.assertIs(holds(yard, 0, ("some", 0, Q)), True)
        self.assertIs(holds(yard, 0, ("some", 0, P)), False)
        self.assertIs(holds(yard, 1, ("some", 0, P)), False)

    def test_small_sayings_in_several_yards(self):
        sayings = sayings_to_depth(2)
        for yard in YARDS[:-1] + [YARD]:
            for world in range(len(yard)):
                for saying in sayings:
                    self.assertIs(holds(yard, world, saying), said(yard, world, saying), (yard, world, saying))

    def test_writings_and_nested_sayings_in_each_yard(self):
        sayings = [saying for saying, text in WRITINGS] + [wrapped(P, depth) for depth in range(16)]
        for yard in YARDS[:-1] + [YARD]:
            for world in range(len(yard)):
                for saying in sayings:
                    self.assertIs(holds(yard, world, saying), said(yard, world, saying), (yard, world, saying))

    def test_a_saying_within_a_hundred_others_and_some_more(self):
        for depth in (100, 130):
            yard = chain(depth + 1)
            saying = P
            for _ in range(depth):
                saying = ("some", 0, saying)
            self.assertIs(holds(yard, 0, saying), True)
            self.assertIs(holds(yard, 1, saying), False)
        saying = P
        for _ in range(2001):
            saying = ("not", ("and", Q, ("all", 1, saying)))
        self.assertIs(holds(((("p", "q"), ((), (0,), ())),), 0, saying), False)
        self.assertIs(holds(((("q",), ((), (0,), ())),), 0, saying), True)

    def test_many_ways_that_meet_again(self):
        everyone = tuple(range(12))
        for last in ((), ("p",)):
            yard = tuple([(("p",) if k < 11 else last, (everyone, everyone, everyone)) for k in range(12)])
            saying = P
            for step in range(100):
                saying = ("all", step % 3, saying)
            self.assertIs(holds(yard, 0, saying), last == ("p",))
            self.assertIs(everywhere(yard, saying), last == ("p",))

    def test_other_worlds_change_nothing(self):
        for saying, worlds in TOLD:
            for more in (LONE, (("p", "q"), ((0, 4), (1,), (2, 3, 4)))):
                for world in range(len(YARD)):
                    self.assertIs(holds(YARD + (more,), world, saying), world in worlds, (world, saying))

    def test_no_such_world(self):
        for yard in YARDS + [YARD]:
            size = len(yard)
            for world in (-1, -2, -size, -size - 1, size, size + 1, 10 ** 30, -(10 ** 30)):
                for saying in (P, ("not", P), ("and", P, Q), ("all", 0, P), ("some", 2, P)):
                    for above in (NoWorld, YardError, ValueError):
                        with self.assertRaises(above, msg=(yard, world)):
                            holds(yard, world, saying)

    def test_the_first_and_the_last_world_are_there(self):
        for yard in YARDS + [YARD]:
            for world in (0, len(yard) - 1):
                self.assertIs(holds(yard, world, ("or", P, ("not", P))), True)

    def test_the_refusal_is_no_other_one(self):
        for world in (-1, len(YARD)):
            try:
                holds(YARD, world, P)
                self.fail("not refused")
            except ValueError as refusal:
                self.assertNotIsInstance(refusal, (NoSaying, NoText))

    def test_nothing_is_changed_and_the_same_is_told_again(self):
        for saying, worlds in TOLD:
            before = repr((YARD, saying))
            for _ in range(2):
                for world in range(len(YARD)):
                    self.assertIs(holds(YARD, world, saying), world in worlds, (world, saying))
            self.assertEqual(repr((YARD, saying)), before)


class Everywhere(unittest.TestCase):
    def test_each_form(self):
        for saying, worlds in TOLD:
            self.assertIs(everywhere(YARD, saying), worlds == (0, 1, 2, 3), saying)

    def test_one_world_is_enough_to_fail(self):
        for size in range(1, 6):
            for without in range(size + 1):
                yard = tuple([(() if k == without else ("p",), ((), (), ())) for k in range(size)])
                self.assertIs(everywhere(yard, P), without == size, (size, without))
                self.assertIs(everywhere(yard, ("not", P)), size == 1 and without == 0, (size, without))

    def test_just_where_it_holds_in_each_world(self):
        for yard in yards_of_two():
            for saying in sayings_to_depth(1) + [wrapped(P, 6), wrapped(Q, 7)]:
                expected = said(yard, 0, saying) and said(yard, 1, saying)
                self.assertIs(everywhere(yard, saying), expected, (yard, saying))

    def test_small_sayings_in_several_yards(self):
        for yard in YARDS[:-1] + [YARD]:
            for saying in sayings_to_depth(2):
                expected = all(said(yard, world, saying) for world in range(len(yard)))
                self.assertIs(everywhere(yard, saying), expected, (yard, saying))

    def test_nothing_is_changed_and_the_same_is_told_again(self):
        for yard in YARDS:
            for saying, worlds in TOLD:
                before = repr((yard, saying))
                first = everywhere(yard, saying)
                self.assertIs(everywhere(yard, saying), first, (yard, saying))
                self.assertEqual(repr((yard, saying)), before)


if __name__ == "__main__":
    unittest.main()
