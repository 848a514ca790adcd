import itertools
import random
import unittest

from samples import LEADS_TO_ITSELF, LONE, YARDS, drawn_saying, drawn_yard, is_of_tuples, said, sayings_to_depth
from worldyard.errors import NoSaying, NoText, NoWorld, YardError
from worldyard.likeness import folded, likeness, telling
from worldyard.plains import deep
from worldyard.things import is_own, is_saying, is_yard
from worldyard.truth import holds
from worldyard.writing import written

NO_WAYS = ((), (), ())


def world(names, zero=(), one=(), two=()):
    return (tuple(names), (tuple(zero), tuple(one), tuple(two)))


def chain(length):
    """Each world leads to the next one by kind 0, the last one to none."""
    return tuple([world("", (k + 1,)) for k in range(length - 1)] + [world("")])


def ring(length, ways=1):
    """Each world leads to as many next ones by kind 0, the last ones to the first."""
    return tuple([world("", sorted((k + way) % length for way in range(1, ways + 1))) for k in range(length)])


# Yards, each with the least worlds that are like its worlds, and with what it is folded to.
TOLD = [
    ((LONE,), (0,), (LONE,)),
    ((LEADS_TO_ITSELF,), (0,), (LEADS_TO_ITSELF,)),
    ((LONE, LONE, LONE), (0, 0, 0), (LONE,)),
    # Other names.
    ((world("p"), world("q")), (0, 1), (world("p"), world("q"))),
    ((world("p"), world("")), (0, 1), (world("p"), world(""))),
    ((world("p"), world("pq")), (0, 1), (world("p"), world("pq"))),
    ((world("pq"), world("p"), world("pq")), (0, 1, 0), (world("pq"), world("p"))),
    ((world("q"), world("p"), world("p"), world("q")), (0, 1, 1, 0), (world("q"), world("p"))),
    # A way more or less, and ways of other kinds.
    ((world("", (0,)), world("")), (0, 1), (world("", (0,)), world(""))),
    ((world("", (0,)), world("", (), (1,))), (0, 1), (world("", (0,)), world("", (), (1,)))),
    ((world("", (0,)), world("", (0,), (), (1,))), (0, 1), (world("", (0,)), world("", (0,), (), (1,)))),
    ((world("", (1,)), world(""), world("", (1,), (1,))), (0, 1, 2), (world("", (1,)), world(""), world("", (1,), (1,)))),
    # Several ways to like worlds are one.
    (
        (world("", (2, 3)), world("", (2,)), world("p"), world("p")),
        (0, 0, 2, 2),
        (world("", (1,)), world("p")),
    ),
    # One leads to a sort of worlds to which the other one doesn't: first and second about.
    (
        (world("", (2, 3)), world("", (2,)), world("p"), world("q")),
        (0, 1, 2, 3),
        (world("", (2, 3)), world("", (2,)), world("p"), world("q")),
    ),
    (
        (world("", (3,)), world("", (2, 3)), world("p"), world("q")),
        (0, 1, 2, 3),
        (world("", (3,)), world("", (2, 3)), world("p"), world("q")),
    ),
    # The same worlds by other kinds.
    (
        (world("", (2,), (3,)), world("", (3,), (2,)), world("p"), world("q")),
        (0, 1, 2, 3),
        (world("", (2,), (3,)), world("", (3,), (2,)), world("p"), world("q")),
    ),
    # Worlds that lead to themselves and round about.
    ((world("", (1,)), world("", (0,))), (0, 0), (world("", (0,)),)),
    ((world("", (1,)), world("", (2,)), world("", (0,))), (0, 0, 0), (world("", (0,)),)),
    ((world("", (0,)), world("", (2,)), world("", (1,))), (0, 0, 0), (world("", (0,)),)),
    ((world("", (0,)), world("", (0, 1)), world("", (0, 1, 2))), (0, 0, 0), (world("", (0,)),)),
    ((world("p", (1,)), world("q", (0,)), world("p", (1,))), (0, 1, 0), (world("p", (1,)), world("q", (0,)))),
    (
        (world("p", (1,)), world("", (2,)), world("p", (3,)), world("", (0,))),
        (0, 1, 0, 1),
        (world("p", (1,)), world("", (0,))),
    ),
    # A ring of four with one name: all differ, some only two steps further.
    (
        (world("p", (1,)), world("", (2,)), world("", (3,)), world("", (0,))),
        (0, 1, 2, 3),
        (world("p", (1,)), world("", (2,)), world("", (3,)), world("", (0,))),
    ),
    # One goes round about forever, the other comes to an end.
    (
        (world("", (0,)), world("", (2,)), world("", (3,)), world("")),
        (0, 1, 2, 3),
        (world("", (0,)), world("", (2,)), world("", (3,)), world("")),
    ),
    (
        (world("", (1,)), world("", (3,)), world("", (3,)), world("")),
        (0, 1, 1, 3),
        (world("", (1,)), world("", (2,)), world("")),
    ),
    # The least of a sort stands in the middle, and what is folded is numbered anew.
    (
        (world("p", (4,)), world("", (5,)), world("q", (1,)), world("", (4,)), world("q", (3,)), world("q", (1,))),
        (0, 1, 2, 1, 2, 2),
        (world("p", (2,)), world("", (2,)), world("q", (1,))),
    ),
    # By one kind a way apart, by another not.
    (
        (world("", (2,), (2,)), world("", (3,), (2,)), world("", (), (), (3,)), world("", (), (), (2,))),
        (0, 0, 2, 2),
        (world("", (1,), (1,)), world("", (), (), (1,))),
    ),
]


def likes(yard):
    """The greatest likeness as a set of pairs: all pairs without those that are not like, taken away in turn."""
    pairs = {(a, b) for a in range(len(yard)) for b in range(len(yard)) if yard[a][0] == yard[b][0]}
    while True:
        left = {(a, b) for a, b in pairs if are_matched(yard, a, b, pairs)}
        if left == pairs:
            return pairs
        pairs = left


def are_matched(yard, one, other, pairs):
    for first, second in zip(yard[one][1], yard[other][1]):
        if not all(any((a, b) in pairs for b in second) for a in first):
            return False
        if not all(any((a, b) in pairs for a in first) for b in second):
            return False
    return True


def small_yards():
    """Every yard of three worlds of which the last has p, with ways of kind 2 alone."""
    rows = [row for size in range(4) for row in itertools.combinations(range(3), size)]
    for zero, one, two in itertools.product(rows, repeat=3):
        yield (world("", (), (), zero), world("", (), (), one), world("p", (), (), two))


def drawn_yards(count, sizes):
    source = random.Random(40)
    for number in range(count):
        yield drawn_yard(source, source.choice(sizes), number % 2)


def yards():
    return YARDS + [yard for yard, least, fold in TOLD] + list(drawn_yards(120, (1, 2, 3, 4, 6)))


def one_named_yard(source, size, dense):
    """A yard with ways of kind 0 alone, in whose world 0 alone p holds."""
    rows = [[other for other in range(size) if source.random() < dense] for number in range(size)]
    return tuple([world("p" if number == 0 else "", row) for number, row in enumerate(rows)])


def nesting(saying):
    """In how many others the names lie at most."""
    inner = [nesting(part) for part in saying if isinstance(part, tuple)]
    return 1 + max(inner) if inner else 0


class Likeness(unittest.TestCase):
    def test_the_yards_of_the_table_are_such(self):
        for yard, least, fold in TOLD:
            self.assertTrue(is_yard(yard), yard)
            self.assertTrue(is_yard(fold), fold)

    def test_each_yard_of_the_table(self):
        for yard, least, fold in TOLD:
            self.assertEqual(likeness(yard), least, yard)

    def test_a_tuple_of_numbers_is_told(self):
        for yard in yards():
            told = likeness(yard)
            self.assertTrue(is_of_tuples(told), yard)
            self.assertEqual(len(told), len(yard))
            for number, least in enumerate(told):
                self.assertLessEqual(least, number)
                self.assertEqual(told[least], least)

    def test_it_is_the_greatest_likeness(self):
        for yard in yards() + list(small_yards()):
            pairs = likes(yard)
            expected = [min([b for b in range(len(yard)) if (a, b) in pairs]) for a in range(len(yard))]
            self.assertEqual(likeness(yard), tuple(expected), yard)

    def test_chains_differ_only_some_steps_further(self):
        for length in (1, 2, 3, 10, 40):
            self.assertEqual(likeness(chain(length)), tuple(range(length)))

    def test_rings_are_like_all_around(self):
        for length in (1, 2, 3, 10, 40):
            self.assertEqual(likeness(ring(length)), (0,) * length)
            self.assertEqual(likeness(ring(length, length)), (0,) * length)
            self.assertEqual(likeness(ring(length) + (world("p", (0,)),)), (0,) * length + (length,))

    def test_what_no_saying_tells_apart_is_like(self):
        sayings = sayings_to_depth(2)[:400]
        for yard in YARDS + [yard for yard, least, fold in TOLD]:
            for number, least in enumerate(likeness(yard)):
                for saying in sayings:
                    self.assertIs(said(yard, number, saying), said(yard, least, saying), (yard, number, saying))

    def test_nothing_is_changed_and_the_same_is_told_again(self):
        for yard in yards():
            before = repr(yard)
            self.assertEqual(likeness(yard), likeness(yard))
            self.assertEqual(repr(yard), before)


class Folded(unittest.TestCase):
    def test_each_yard_of_the_table(self):
        for yard, least, fold in TOLD:
            self.assertEqual(folded(yard), fold, yard)

    def test_a_yard_is_told(self):
        for yard in yards():
            self.assertTrue(is_of_tuples(folded(yard)), yard)
            self.assertTrue(is_yard(folded(yard)), yard)

    def test_as_many_worlds_as_sorts_in_order_of_their_least(self):
        for yard in yards() + list(small_yards()):
            pairs = likes(yard)
            least = [min([b for b in range(len(yard)) if (a, b) in pairs]) for a in range(len(yard))]
            kept = sorted(set(least))
            expected = tuple([
                (yard[k][0], tuple([tuple(sorted({kept.index(least[to]) for to in row})) for row in yard[k][1]]))
                for k in kept
            ])
            self.assertEqual(folded(yard), expected, yard)

    def test_own_yards_stay_own(self):
        count = 0
        for yard in yards() + list(drawn_yards(100, (2, 3, 5))):
            if is_own(yard):
                self.assertTrue(is_own(folded(yard)), yard)
                count += 1
        self.assertGreater(count, 80)
        self.assertFalse(is_own(folded((world("p", (1,)), world("q", (0,))))))
        self.assertFalse(is_own(folded((LEADS_TO_ITSELF, LONE))))

    def test_folded_again_it_is_the_same(self):
        for yard in yards() + list(small_yards()):
            fold = folded(yard)
            self.assertEqual(folded(fold), fold, yard)
            self.assertEqual(likeness(fold), tuple(range(len(fold))), yard)

    def test_just_the_same_sayings_hold(self):
        source = random.Random(41)
        sayings = sayings_to_depth(1) + [drawn_saying(source, 4) for _ in range(60)]
        for yard in YARDS[:-1] + [yard for yard, least, fold in TOLD] + list(drawn_yards(25, (2, 3, 4))):
            fold = folded(yard)
            least = likeness(yard)
            kept = sorted(set(least))
            for number in range(len(yard)):
                place = kept.index(least[number])
                for saying in sayings:
                    self.assertIs(holds(fold, place, saying), holds(yard, number, saying), (yard, number, saying))

    def test_nothing_is_changed_and_the_same_is_told_again(self):
        for yard in yards():
            before = repr(yard)
            self.assertEqual(folded(yard), folded(yard))
            self.assertEqual(repr(yard), before)


class Telling(unittest.TestCase):
    def check(self, yard, one, other):
        saying = telling(yard, one, other)
        self.assertIs(is_saying(saying), True, (yard, one, other))
        self.assertIs(holds(yard, one, saying), True, (yard, one, other, saying))
        self.assertIs(holds(yard, other, saying), False, (yard, one, other, saying))
        return saying

    def test_each_two_worlds_both_ways_about(self):
        count = 0
        for yard in yards() + list(small_yards()):
            pairs = likes(yard)
            for one, other in itertools.product(range(len(yard)), repeat=2):
                if (one, other) not in pairs:
                    saying = self.check(yard, one, other)
                    self.assertTrue(said(yard, one, saying), (yard, one, other))
                    self.assertFalse(said(yard, other, saying), (yard, one, other))
                    count += 1
        self.assertGreater(count, 1000)

    def test_like_worlds_are_refused(self):
        count = 0
        for yard in yards() + list(small_yards()):
            for one, other in likes(yard):
                for above in (NoSaying, YardError, ValueError):
                    with self.assertRaises(above, msg=(yard, one, other)):
                        telling(yard, one, other)
                count += 1
        self.assertGreater(count, 1000)

    def test_a_world_and_itself_are_refused(self):
        for yard in yards():
            for number in range(len(yard)):
                with self.assertRaises(NoSaying, msg=(yard, number)):
                    telling(yard, number, number)

    def test_no_such_world_ahead_of_like_ones(self):
        for yard in yards():
            size = len(yard)
            for wrong in (-1, -size, -size - 1, size, size + 1, 10 ** 30, -(10 ** 30)):
                for one, other in [(wrong, wrong)] + [(wrong, k) for k in range(size)] + [(k, wrong) for k in range(size)]:
                    with self.assertRaises(NoWorld, msg=(yard, one, other)):
                        telling(yard, one, other)

    def test_the_refusals_are_no_other_ones(self):
        for one, other, kind in ((0, 0, NoSaying), (0, 1, NoSaying), (0, 2, NoWorld), (-1, -1, NoWorld)):
            try:
                telling((LONE, LONE), one, other)
                self.fail("not refused")
            except ValueError as refusal:
                self.assertIs(type(refusal), kind)
                self.assertNotIsInstance(refusal, NoText)

    def test_by_names(self):
        for first, second in itertools.permutations(("", "p", "q", "pq", "r", "pqr"), 2):
            self.check((world(first), world(second)), 0, 1)
            self.check((world(second), world(first)), 1, 0)

    def test_by_a_way_that_the_other_world_does_not_have(self):
        for kind in (0, 1, 2):
            for names in ("", "a", "p", "pq"):
                ways = [(), (), ()]
                ways[kind] = (1,)
                yard = ((tuple(names), tuple(ways)), (tuple(names), NO_WAYS))
                self.check(yard, 0, 1)
                self.check(yard, 1, 0)

    def test_by_the_kind_of_a_way(self):
        for one, other in itertools.permutations((0, 1, 2), 2):
            ways = [[(), (), ()], [(), (), ()]]
            ways[0][one] = (2,)
            ways[1][other] = (2,)
            yard = (((), tuple(ways[0])), ((), tuple(ways[1])), LONE)
            self.check(yard, 0, 1)
            self.check(yard, 1, 0)

    def test_only_some_steps_further(self):
        for length in (2, 3, 5, 9, 30, 90):
            for one, other in ((0, 1), (1, 0), (0, length - 1), (length - 1, 0), (length - 2, length - 1)):
                saying = self.check(chain(length), one, other)
                self.assertLessEqual(deep(saying), length - max(one, other))

    def test_where_many_worlds_must_be_told_from_one(self):
        names = ["".join(signs) for signs in itertools.product("abc", repeat=4)]
        others = tuple(range(3, 3 + len(names)))
        yard = (world("", (2,) + others), world("", others), LONE)
        yard += tuple([((name,), NO_WAYS) for name in names])
        self.assertTrue(is_yard(yard))
        for one, other in ((0, 1), (1, 0)):
            self.assertLess(nesting(self.check(yard, one, other)), 12)

    def test_sayings_stay_small_where_ways_meet_again(self):
        source = random.Random(42)
        for size, dense in itertools.product((10, 16, 25), (0.2, 0.4, 0.6)):
            yard = one_named_yard(source, size, dense)
            pairs = likes(yard)
            self.assertGreater(size * size, len(pairs))
            for one, other in itertools.product(range(size), repeat=2):
                if (one, other) not in pairs:
                    self.assertLess(len(written(self.check(yard, one, other))), 1000)

    def test_many_yards_of_ten_worlds(self):
        source = random.Random(43)
        for _ in range(60):
            yard = one_named_yard(source, 10, source.choice((0.2, 0.35, 0.5)))
            pairs = likes(yard)
            for one, other in itertools.product(range(10), repeat=2):
                if (one, other) not in pairs:
                    self.check(yard, one, other)

    def test_tuples_texts_and_numbers_are_told(self):
        for yard in yards():
            least = likeness(yard)
            for one, other in itertools.product(range(len(yard)), repeat=2):
                if least[one] != least[other]:
                    self.assertTrue(is_of_tuples(telling(yard, one, other)))

    def test_nothing_is_changed_and_the_same_is_told_again(self):
        for yard in yards():
            before = repr(yard)
            least = likeness(yard)
            for one, other in itertools.product(range(len(yard)), repeat=2):
                if least[one] != least[other]:
                    self.assertEqual(telling(yard, one, other), telling(yard, one, other))
            self.assertEqual(repr(yard), before)


if __name__ == "__main__":
    unittest.main()
