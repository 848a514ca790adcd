import copy
import itertools
import unittest

from samples import (
    LEADS_TO_ITSELF, LONE, NO_SAYINGS, P, Q, WRITINGS, YARDS, sayings_to_depth, spoilt_in_one_place, wrapped,
)
from worldyard.things import is_own, is_saying, is_yard


def yard_of(names, ways, size):
    """A yard of that many worlds, the first with the names and ways, the others with none."""
    return ((names, ways),) + (LONE,) * (size - 1)


class Sayings(unittest.TestCase):
    def test_each_form(self):
        for saying, text in WRITINGS:
            self.assertIs(is_saying(saying), True, saying)

    def test_all_small_sayings(self):
        for saying in sayings_to_depth(2):
            self.assertIs(is_saying(saying), True, saying)

    def test_what_is_none(self):
        for thing in NO_SAYINGS:
            self.assertIs(is_saying(thing), False, thing)

    def test_what_is_none_deep_within(self):
        for thing in NO_SAYINGS:
            for depth in range(1, 31):
                self.assertIs(is_saying(wrapped(thing, depth)), False, (thing, depth))

    def test_what_is_none_in_each_place(self):
        whole = ("and", ("or", P, ("not", Q)), ("all", 0, ("some", 2, ("and", Q, P))))
        self.assertIs(is_saying(whole), True)
        for thing in NO_SAYINGS:
            for spoilt in spoilt_in_one_place(whole, thing):
                self.assertIs(is_saying(spoilt), False, spoilt)

    def test_names_are_one_to_four_small_letters(self):
        words = ("not", "and", "or", "all", "some")
        for length in range(5):
            for signs in itertools.product("adelmnorst", repeat=length):
                name = "".join(signs)
                self.assertIs(is_saying(("name", name)), length > 0 and name not in words, name)
        for signs in itertools.product("ano", repeat=5):
            self.assertIs(is_saying(("name", "".join(signs))), False, signs)

    def test_each_sign_as_a_name(self):
        for code in range(0, 400):
            expected = ord("a") <= code <= ord("z")
            for name in (chr(code), chr(code) + "b", "b" + chr(code), "bbb" + chr(code)):
                self.assertIs(is_saying(("name", name)), expected, name)

    def test_kinds_are_0_1_and_2(self):
        for head in ("all", "some"):
            for kind in range(-5, 9):
                self.assertIs(is_saying((head, kind, P)), kind in (0, 1, 2), (head, kind))

    def test_a_saying_within_a_hundred_others_and_some_more(self):
        for depth in (30, 100, 101, 130, 2000):
            self.assertIs(is_saying(wrapped(P, depth)), True, depth)
            self.assertIs(is_saying(wrapped(["name", "p"], depth)), False, depth)

    def test_other_things_some_thirty_deep(self):
        thing = P
        for _ in range(35):
            thing = (thing,)
        self.assertIs(is_saying(thing), False)
        thing = []
        for _ in range(35):
            thing = [thing]
        self.assertIs(is_saying(thing), False)

    def test_nothing_is_changed_and_the_same_is_told_again(self):
        for thing in NO_SAYINGS + [saying for saying, text in WRITINGS]:
            before = repr(copy.deepcopy(thing))
            first = is_saying(thing)
            self.assertIs(is_saying(thing), first, thing)
            self.assertEqual(repr(thing), before)


NO_NAMES = [
    ("q", "p"), ("p", "p"), ("p", "q", "q"), ("a", "c", "b"), ("b", "ab"), ("ab", "a"),
    ("P",), ("",), ("abcde",), ("p1",), ("not",), ("and",), ("or",), ("all",), ("some",), ("a", "all"),
    (0,), (True,), (None,), ("p", 0), (0, "p"), (P,), (("p",),), (["p"],), ("p", ()), (None, None),
    ["p"], [], "p", "", 0, True, None, P + (0,),
]

# For kinds of a yard of three worlds.
NO_ROWS = [
    (3,), (-1,), (0, 3), (-1, 0), (0, 1, 2, 3), (10 ** 30,),
    (1, 0), (0, 0), (0, 2, 1), (0, 1, 1), (2, 1, 0),
    (True,), (False,), (0, True), (False, 1), (None,), ("0",), ((0,),), ([0],), (0, "1"), (0, None), (0, ()),
    [0], [], "0", "", 0, True, None,
]

NO_WAYS = [
    (), ((),), ((), ()), ((), (), (), ()), ((0,), (1,)), ((0,), (1,), (2,), (0,)),
    [(), (), ()], [[], [], []], "abc", "", 0, 3, True, None, (0, 1, 2), (None, None, None), ("", "", ""),
]

NO_WORLDS = [
    (), ((),), (((), (), ()),), ((), ((), (), ()), ()), (((), (), ()), ()), ("p", ((), (), ())),
    [(), ((), (), ())], [], "", "pq", 0, True, None, ((), ()), P,
]


class Yards(unittest.TestCase):
    def test_yards(self):
        for yard in YARDS:
            self.assertIs(is_yard(yard), True, yard)

    def test_names_that_are_not_to_be(self):
        for names in NO_NAMES:
            for size in (1, 3):
                self.assertIs(is_yard(yard_of(names, ((), (), ()), size)), False, (names, size))

    def test_ways_of_one_kind_that_are_not_to_be(self):
        for row in NO_ROWS:
            for kind in range(3):
                ways = [(0, 2), (), (1,)]
                self.assertIs(is_yard(yard_of(("p",), tuple(ways), 3)), True)
                ways[kind] = row
                self.assertIs(is_yard(yard_of(("p",), tuple(ways), 3)), False, ways)

    def test_ways_lead_to_worlds_of_the_yard_alone(self):
        for size in range(1, 5):
            for world in range(-3, 7):
                expected = 0 <= world < size
                self.assertIs(is_yard(yard_of((), ((), (world,), ()), size)), expected, (size, world))

    def test_rows_of_ways_are_rising(self):
        for length in range(4):
            for row in itertools.product(range(3), repeat=length):
                expected = list(row) == sorted(set(row))
                self.assertIs(is_yard(yard_of((), ((), (), row), 3)), expected, row)

    def test_rows_of_names_are_rising(self):
        for length in range(4):
            for names in itertools.product(("a", "ab", "b", "zz"), repeat=length):
                expected = list(names) == sorted(set(names))
                self.assertIs(is_yard(yard_of(names, ((), (), ()), 2)), expected, names)

    def test_ways_are_three_rows(self):
        for ways in NO_WAYS:
            self.assertIs(is_yard(yard_of((), ways, 3)), False, ways)

    def test_worlds_are_pairs(self):
        for world in NO_WORLDS:
            self.assertIs(is_yard((world,)), False, world)

    def test_one_spoilt_world_among_others(self):
        bad = NO_WORLDS + [(names, ((), (), ())) for names in NO_NAMES] + [((), ways) for ways in NO_WAYS]
        for world in bad:
            for place in range(3):
                yard = [LONE, LONE, LONE]
                yard[place] = world
                self.assertIs(is_yard(tuple(yard)), False, yard)

    def test_what_is_no_tuple_of_worlds(self):
        for thing in [(), [], [LONE], [LEADS_TO_ITSELF], 0, 1, -1, True, False, None, "", "p", LONE, P, ((),), {}]:
            self.assertIs(is_yard(thing), False, thing)

    def test_sayings_and_spoilt_sayings_are_no_yards(self):
        for thing in NO_SAYINGS + [saying for saying, text in WRITINGS]:
            self.assertIs(is_yard(thing), False, thing)

    def test_yards_are_no_sayings(self):
        for yard in YARDS:
            self.assertIs(is_saying(yard), False, yard)

    def test_other_things_some_thirty_deep(self):
        tuples = LONE
        lists = [LONE]
        for _ in range(35):
            tuples = (tuples,)
            lists = [lists]
        self.assertIs(is_yard(tuples), False)
        self.assertIs(is_yard(lists), False)

    def test_nothing_is_changed_and_the_same_is_told_again(self):
        rows = [yard_of((), (row, (), ()), 3) for row in NO_ROWS]
        names = [yard_of(row, ((), (), ()), 3) for row in NO_NAMES]
        for thing in YARDS + rows + names + [[LONE], [], [[]]]:
            before = repr(copy.deepcopy(thing))
            first = is_yard(thing)
            self.assertIs(is_yard(thing), first, thing)
            self.assertEqual(repr(thing), before)


class OwnYards(unittest.TestCase):
    def test_one_world(self):
        for ways in itertools.product(((), (0,)), repeat=3):
            self.assertIs(is_own((((), ways),)), ways == ((0,), (0,), (0,)), ways)

    def test_two_worlds(self):
        rows = ((), (0,), (1,), (0, 1))
        for one in itertools.product(rows, repeat=3):
            for other in itertools.product(rows, repeat=3):
                expected = all(0 in row for row in one) and all(1 in row for row in other)
                self.assertIs(is_own((((), one), (("p",), other))), expected, (one, other))

    def test_one_way_missing_among_several_worlds(self):
        whole = [[[k, 4] if k < 4 else [4] for _ in range(3)] for k in range(5)]
        for world, kind in itertools.product(range(5), range(3)):
            ways = copy.deepcopy(whole)
            self.assertIs(is_own(self.frozen(ways)), True)
            ways[world][kind].remove(world)
            self.assertIs(is_yard(self.frozen(ways)), True)
            self.assertIs(is_own(self.frozen(ways)), False, (world, kind))

    def frozen(self, ways):
        return tuple([(("p",), tuple([tuple(row) for row in rows])) for rows in ways])

    def test_nothing_is_changed_and_the_same_is_told_again(self):
        for yard in YARDS:
            before = repr(yard)
            first = is_own(yard)
            self.assertIs(is_own(yard), first, yard)
            self.assertEqual(repr(yard), before)


if __name__ == "__main__":
    unittest.main()
