import itertools
import random
import unittest

from samples import LEADS_TO_ITSELF, LONE, P, Q, YARDS, drawn_saying, drawn_yard, is_of_tuples, sayings_to_depth, wrapped
from worldyard.changing import beside, part_of, reached, renamed, told_to_all
from worldyard.errors import NoSaying, NoText, NoWorld, YardError
from worldyard.things import is_own, is_yard
from worldyard.truth import everywhere, holds


def world(names, zero=(), one=(), two=()):
    return (tuple(names), (tuple(zero), tuple(one), tuple(two)))


# Ways of all kinds, there and back; none leads to world 0 or from world 3, and world 5 stands alone.
YARD = (
    world("p", (4,), (), ()),
    world("pq", (), (1, 4), ()),
    world("q", (2, 3), (), (4,)),
    world("", (), (), ()),
    world("p", (), (), (1, 3)),
    world("q", (), (5,), ()),
)

# For each world of YARD what it reaches, and the part of the yard that it is the first world of.
PARTS = [
    (
        (0, 1, 3, 4),
        (world("p", (3,)), world("pq", (), (1, 3)), world(""), world("p", (), (), (1, 2))),
    ),
    (
        (1, 3, 4),
        (world("pq", (), (0, 2)), world(""), world("p", (), (), (0, 1))),
    ),
    (
        (1, 2, 3, 4),
        (world("q", (0, 2), (), (3,)), world("pq", (), (1, 3)), world(""), world("p", (), (), (1, 2))),
    ),
    ((3,), (LONE,)),
    (
        (1, 3, 4),
        (world("p", (), (), (1, 2)), world("pq", (), (0, 1)), world("")),
    ),
    ((5,), (world("q", (), (0,)),)),
]

# Sayings, each with what is left of YARD when they are told to all.
LEFT = [
    (("or", P, ("not", P)), YARD),
    (P, (world("p", (2,)), world("pq", (), (1, 2)), world("p", (), (), (1,)))),
    (Q, (world("pq", (), (0,)), world("q", (1,)), world("q", (), (2,)))),
    (("not", P), (world("q", (0, 1)), world(""), world("q", (), (2,)))),
    (("and", P, Q), (world("pq", (), (0,)),)),
    (("and", P, ("not", Q)), (world("p", (1,)), world("p"))),
    (("and", ("not", P), ("not", Q)), (world(""),)),
    (("some", 0, P), (world("p"),)),
    (("some", 1, Q), (world("pq", (), (0,)), world("q", (), (1,)))),
    (
        ("all", 2, P),
        (world("p"), world("pq", (), (1,)), world("q", (2, 3)), world(""), world("q", (), (4,))),
    ),
    (("some", 2, ("or", P, Q)), (world("q", (0,), (), (1,)), world("p"))),
    (("all", 0, ("some", 2, P)), (world("p", (3,)), world("pq", (), (1, 3)), world(""), world("p", (), (), (1, 2)),
                                  world("q", (), (4,)))),
]

NOWHERE = [("name", "r"), ("and", P, ("not", P)), ("some", 0, ("name", "r")), ("some", 2, ("some", 0, P)),
           ("and", Q, ("some", 2, Q))]


def yards():
    source = random.Random(50)
    return YARDS + [YARD] + [drawn_yard(source, source.choice((1, 2, 3, 5)), k % 2) for k in range(60)]


def sayings():
    source = random.Random(51)
    return sayings_to_depth(1) + [wrapped(P, 5), wrapped(Q, 8)] + [drawn_saying(source, 4) for _ in range(40)]


def reached_straight(yard, start):
    """The worlds, found by as many rounds as there are worlds."""
    found = {start}
    for _ in yard:
        found |= {to for number in found for row in yard[number][1] for to in row}
    return tuple(sorted(found))


class Reached(unittest.TestCase):
    def test_each_world_by_hand(self):
        self.assertTrue(is_yard(YARD))
        for number, (worlds, part) in enumerate(PARTS):
            self.assertEqual(reached(YARD, number), worlds)

    def test_each_kind_of_way(self):
        for kind in (0, 1, 2):
            ways = [(), (), ()]
            ways[kind] = (2,)
            yard = (((), tuple(ways)), LONE, LONE)
            self.assertEqual([reached(yard, number) for number in range(3)], [(0, 2), (1,), (2,)])

    def test_any_number_of_steps_by_kinds_in_turn(self):
        for length in (1, 2, 3, 7, 50, 3000):
            worlds = []
            for number in range(length):
                ways = [(), (), ()]
                ways[number % 3] = (number + 1,) if number + 1 < length else ()
                worlds.append(((), tuple(ways)))
            yard = tuple(worlds)
            self.assertEqual(reached(yard, 0), tuple(range(length)))
            self.assertEqual(reached(yard, length // 2), tuple(range(length // 2, length)))
            self.assertEqual(reached(yard, length - 1), (length - 1,))

    def test_round_about(self):
        yard = tuple([world("", ((number + 1) % 9,)) for number in range(9)]) + (world("", (0,)),)
        for number in range(9):
            self.assertEqual(reached(yard, number), tuple(range(9)))
        self.assertEqual(reached(yard, 9), tuple(range(10)))

    def test_as_many_rounds_tell(self):
        for yard in yards():
            for number in range(len(yard)):
                told = reached(yard, number)
                self.assertEqual(told, reached_straight(yard, number), (yard, number))
                self.assertTrue(is_of_tuples(told))

    def test_nothing_is_changed_and_the_same_is_told_again(self):
        for yard in yards():
            before = repr(yard)
            for number in range(len(yard)):
                self.assertEqual(reached(yard, number), reached(yard, number))
                self.assertEqual(part_of(yard, number), part_of(yard, number))
            self.assertEqual(repr(yard), before)


class PartOf(unittest.TestCase):
    def test_each_world_by_hand(self):
        for number, (worlds, part) in enumerate(PARTS):
            self.assertEqual(part_of(YARD, number), part)

    def test_just_the_same_sayings_hold(self):
        for yard in yards():
            for number in range(len(yard)):
                part = part_of(yard, number)
                self.assertTrue(is_of_tuples(part))
                self.assertTrue(is_yard(part), (yard, number))
                worlds = [number] + [other for other in reached(yard, number) if other != number]
                self.assertEqual(len(part), len(worlds))
                for saying in sayings():
                    self.assertIs(holds(part, 0, saying), holds(yard, number, saying), (yard, number, saying))
                for place, other in enumerate(worlds):
                    for saying in sayings_to_depth(1):
                        self.assertIs(holds(part, place, saying), holds(yard, other, saying), (yard, other, saying))

    def test_a_part_of_an_own_yard_is_own(self):
        for yard in yards():
            for number in range(len(yard)):
                if is_own(yard):
                    self.assertTrue(is_own(part_of(yard, number)), yard)

    def test_a_part_of_the_part_is_the_part(self):
        for yard in yards():
            for number in range(len(yard)):
                part = part_of(yard, number)
                self.assertEqual(reached(part, 0), tuple(range(len(part))))
                self.assertEqual(part_of(part, 0), part)


class NoSuchWorld(unittest.TestCase):
    def test_no_such_world(self):
        for yard in yards():
            size = len(yard)
            for number in (-1, -size, -size - 1, size, size + 1, 10 ** 30, -(10 ** 30)):
                for asked in (reached, part_of):
                    for above in (NoWorld, YardError, ValueError):
                        with self.assertRaises(above, msg=(yard, number)):
                            asked(yard, number)

    def test_a_saying_that_holds_nowhere(self):
        for saying in NOWHERE:
            for above in (NoWorld, YardError, ValueError):
                with self.assertRaises(above, msg=saying):
                    told_to_all(YARD, saying)

    def test_the_refusal_is_no_other_one(self):
        for asked, thing in ((reached, -1), (part_of, 6), (told_to_all, NOWHERE[0])):
            try:
                asked(YARD, thing)
                self.fail("not refused")
            except ValueError as refusal:
                self.assertIs(type(refusal), NoWorld)
                self.assertNotIsInstance(refusal, (NoSaying, NoText))


class ToldToAll(unittest.TestCase):
    def test_by_hand(self):
        for saying, left in LEFT:
            self.assertEqual(told_to_all(YARD, saying), left, saying)

    def test_just_the_worlds_in_which_it_holds_and_the_ways_among_them(self):
        for yard in yards():
            for saying in sayings():
                kept = [number for number in range(len(yard)) if holds(yard, number, saying)]
                if not kept:
                    with self.assertRaises(NoWorld, msg=(yard, saying)):
                        told_to_all(yard, saying)
                    continue
                left = told_to_all(yard, saying)
                self.assertTrue(is_of_tuples(left))
                self.assertTrue(is_yard(left), (yard, saying))
                self.assertEqual(len(left), len(kept), (yard, saying))
                for one, other in itertools.product(range(len(kept)), repeat=2):
                    for kind in (0, 1, 2):
                        expected = kept[other] in yard[kept[one]][1][kind]
                        self.assertEqual(other in left[one][1][kind], expected, (yard, saying, one, other))
                self.assertEqual([names for names, ways in left], [yard[number][0] for number in kept])

    def test_own_yards_stay_own(self):
        for yard in yards():
            if is_own(yard):
                for saying in sayings_to_depth(1):
                    if any(holds(yard, number, saying) for number in range(len(yard))):
                        self.assertTrue(is_own(told_to_all(yard, saying)), (yard, saying))

    def test_what_holds_behind_it(self):
        for yard in yards():
            for saying in sayings()[::3]:
                kept = [number for number in range(len(yard)) if holds(yard, number, saying)]
                if kept:
                    left = told_to_all(yard, saying)
                    for place, number in enumerate(kept):
                        for told in sayings_to_depth(1):
                            expected = holds_as_told(yard, number, saying, told)
                            self.assertIs(holds(left, place, told), expected, (yard, number, saying, told))

    def test_names_told_to_all_hold_everywhere(self):
        for yard in yards():
            for saying in (P, Q, ("not", P), ("and", P, ("not", Q)), ("or", P, Q)):
                if any(holds(yard, number, saying) for number in range(len(yard))):
                    left = told_to_all(yard, saying)
                    self.assertIs(everywhere(left, saying), True)
                    self.assertEqual(told_to_all(left, saying), left)

    def test_what_holds_everywhere_changes_nothing(self):
        for yard in yards():
            self.assertEqual(told_to_all(yard, ("or", P, ("not", P))), yard)

    def test_a_saying_may_fail_behind_its_telling(self):
        saying = ("and", P, ("some", 0, ("not", P)))
        yard = (world("p", (1,)), world(""))
        self.assertEqual(told_to_all(yard, saying), (world("p"),))
        self.assertIs(holds(told_to_all(yard, saying), 0, saying), False)

    def test_nothing_is_changed_and_the_same_is_told_again(self):
        for saying, left in LEFT:
            before = repr((YARD, saying))
            self.assertEqual(told_to_all(YARD, saying), told_to_all(YARD, saying))
            self.assertEqual(repr((YARD, saying)), before)


def holds_as_told(yard, number, told, saying):
    """Whether the saying holds in the world, where ways count only if what is told holds where they lead."""
    head = saying[0]
    if head == "name":
        return saying[1] in yard[number][0]
    if head == "not":
        return not holds_as_told(yard, number, told, saying[1])
    if head in ("and", "or"):
        both = [holds_as_told(yard, number, told, part) for part in saying[1:]]
        return all(both) if head == "and" else any(both)
    worlds = [other for other in yard[number][1][saying[1]] if holds(yard, other, told)]
    parts = [holds_as_told(yard, other, told, saying[2]) for other in worlds]
    return all(parts) if head == "all" else any(parts)


class Beside(unittest.TestCase):
    def test_by_hand(self):
        self.assertEqual(beside((LONE,), (LONE,)), (LONE, LONE))
        self.assertEqual(
            beside((world("p", (0,)),), (world("q", (0,), (1,), (0, 1)), world("", (), (0,)))),
            (world("p", (0,)), world("q", (1,), (2,), (1, 2)), world("", (), (1,))),
        )
        self.assertEqual(
            beside((world("q", (0,), (1,), (0, 1)), world("", (), (0,))), (world("p", (0,)),)),
            (world("q", (0,), (1,), (0, 1)), world("", (), (0,)), world("p", (2,))),
        )
        self.assertEqual(
            beside((LONE, LEADS_TO_ITSELF), (LEADS_TO_ITSELF, world("p", (0, 1)))),
            (LONE, LEADS_TO_ITSELF, world("", (2,), (2,), (2,)), world("p", (2, 3))),
        )

    def test_just_the_same_sayings_hold_in_each_world(self):
        some = YARDS[:-1] + yards()[-20:]
        for one, other in zip(some, some[3:] + some[:3]):
            both = beside(one, other)
            self.assertTrue(is_of_tuples(both))
            self.assertTrue(is_yard(both), (one, other))
            self.assertEqual(len(both), len(one) + len(other))
            for saying in sayings():
                for number in range(len(one)):
                    self.assertIs(holds(both, number, saying), holds(one, number, saying))
                for number in range(len(other)):
                    self.assertIs(holds(both, len(one) + number, saying), holds(other, number, saying))

    def test_own_just_if_both_are(self):
        for one, other in itertools.product(yards()[::4], repeat=2):
            self.assertEqual(is_own(beside(one, other)), is_own(one) and is_own(other))

    def test_nothing_is_changed_and_the_same_is_told_again(self):
        for one, other in itertools.product(YARDS, repeat=2):
            before = repr((one, other))
            self.assertEqual(beside(one, other), beside(one, other))
            self.assertEqual(repr((one, other)), before)


class Renamed(unittest.TestCase):
    def test_by_hand(self):
        yard = (world("p", (1,), (0, 2)), world("q", (), (), (2,)), world("", (0, 1)))
        self.assertEqual(renamed(yard, (0, 1, 2)), yard)
        self.assertEqual(
            renamed(yard, (1, 2, 0)),
            (world("", (1, 2)), world("p", (2,), (0, 1)), world("q", (), (), (0,))),
        )
        self.assertEqual(
            renamed(yard, (2, 0, 1)),
            (world("q", (), (), (1,)), world("", (0, 2)), world("p", (0,), (1, 2))),
        )
        self.assertEqual(
            renamed(yard, (0, 2, 1)),
            (world("p", (2,), (0, 1)), world("", (0, 2)), world("q", (), (), (1,))),
        )
        self.assertEqual(renamed((LEADS_TO_ITSELF,), (0,)), (LEADS_TO_ITSELF,))

    def test_world_k_stands_at_its_place(self):
        for yard in yards():
            for places in itertools.islice(itertools.permutations(range(len(yard))), 24):
                told = renamed(yard, places)
                self.assertTrue(is_of_tuples(told))
                self.assertTrue(is_yard(told), (yard, places))
                self.assertEqual(len(told), len(yard))
                for number, (names, ways) in enumerate(yard):
                    expected = tuple([tuple(sorted([places[other] for other in row])) for row in ways])
                    self.assertEqual(told[places[number]], (names, expected), (yard, places, number))

    def test_just_the_same_sayings_hold(self):
        for yard in YARDS[:-1] + [YARD] + yards()[-15:]:
            for places in itertools.islice(itertools.permutations(range(len(yard))), 1, 6):
                told = renamed(yard, places)
                for number, saying in itertools.product(range(len(yard)), sayings()[::2]):
                    self.assertIs(holds(told, places[number], saying), holds(yard, number, saying))

    def test_named_back_it_is_the_same(self):
        for yard in yards():
            for places in itertools.islice(itertools.permutations(range(len(yard))), 24):
                back = tuple([places.index(number) for number in range(len(yard))])
                self.assertEqual(renamed(renamed(yard, places), back), yard)
                self.assertEqual(is_own(renamed(yard, places)), is_own(yard))

    def test_nothing_is_changed_and_the_same_is_told_again(self):
        for yard in yards():
            places = tuple(range(len(yard)))[::-1]
            before = repr((yard, places))
            self.assertEqual(renamed(yard, places), renamed(yard, places))
            self.assertEqual(repr((yard, places)), before)


if __name__ == "__main__":
    unittest.main()
