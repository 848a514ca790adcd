import itertools
import unittest

from samples import NO_SAYINGS, P, Q, YARDS, said, shown
from worldyard.things import is_own
from worldyard.trees import shows

R = ("name", "r")
NOT_P = ("not", P)
NOT_Q = ("not", Q)
CLASH = ("clash", "p")
CLASH_Q = ("clash", "q")

AND = ("and", P, NOT_P)
OR = ("or", P, Q)
ALL = ("all", 1, NOT_P)
SOME = ("some", 1, P)

# Trees that show it of the row of sayings, of whatever yards.
RIGHT = [
    (CLASH, (P, NOT_P)),
    (CLASH, (NOT_P, P)),
    (CLASH, (Q, NOT_P, R, OR, P)),
    (CLASH, (P, NOT_P, P, NOT_P)),
    (("clash", "rain"), (("not", ("name", "rain")), ("name", "rain"))),
    (("both", AND, CLASH), (AND,)),
    (("both", AND, CLASH), (Q, AND, OR)),
    (("both", ("and", NOT_P, P), CLASH), (("and", NOT_P, P),)),
    (("both", ("and", P, Q), CLASH), (("and", P, Q), NOT_P)),
    (("both", ("and", P, Q), CLASH_Q), (("and", P, Q), NOT_Q)),
    # The sayings stay among them: the and itself and the others.
    (("both", ("and", P, Q), ("both", ("and", P, Q), CLASH)), (("and", P, Q), NOT_P)),
    (("both", ("and", P, Q), CLASH), (P, ("and", P, Q), NOT_P)),
    (("both", ("and", Q, ("and", NOT_P, Q)), ("both", ("and", NOT_P, Q), CLASH)), (P, ("and", Q, ("and", NOT_P, Q)))),
    (("either", OR, CLASH, CLASH_Q), (OR, NOT_P, NOT_Q)),
    (("either", OR, CLASH, CLASH_Q), (NOT_Q, NOT_P, OR)),
    (("either", OR, CLASH, CLASH), (OR, NOT_P, P)),
    (("either", ("or", P, P), CLASH, CLASH), (("or", P, P), NOT_P)),
    (("either", OR, ("either", OR, CLASH, CLASH), CLASH_Q), (OR, NOT_P, NOT_Q)),
    (("either", ("or", AND, Q), ("both", AND, CLASH), CLASH_Q), (("or", AND, Q), NOT_Q)),
    (("either", ("or", Q, AND), CLASH_Q, ("both", AND, CLASH)), (("or", Q, AND), NOT_Q)),
    (("step", SOME, CLASH), (SOME, ALL)),
    (("step", SOME, CLASH), (ALL, SOME)),
    (("step", SOME, CLASH), (("all", 1, Q), ALL, ("all", 0, P), SOME)),
    (("step", ("some", 0, AND), ("both", AND, CLASH)), (("some", 0, AND),)),
    (("step", ("some", 2, Q), CLASH), (("some", 2, Q), ("all", 2, P), ("all", 2, NOT_P))),
    (
        ("step", ("some", 0, SOME), ("step", SOME, CLASH)),
        (("some", 0, SOME), ("all", 0, ALL)),
    ),
    (
        ("step", ("some", 0, OR), ("either", OR, CLASH, CLASH_Q)),
        (("some", 0, OR), ("all", 0, NOT_P), ("all", 0, NOT_Q), ("all", 1, P)),
    ),
    (
        ("both", ("and", SOME, ALL), ("step", SOME, CLASH)),
        (("and", SOME, ALL),),
    ),
    (
        ("either", ("or", SOME, P), ("step", SOME, CLASH), CLASH),
        (("or", SOME, P), ALL, NOT_P),
    ),
]

# Trees that show it of the row of sayings of own yards alone.
RIGHT_OF_OWN = [
    (("self", ALL, CLASH), (ALL, P)),
    (("self", ALL, CLASH), (P, Q, ALL)),
    (("self", ("all", 0, P), CLASH), (("all", 0, P), NOT_P)),
    (("self", ("all", 2, AND), ("both", AND, CLASH)), (("all", 2, AND),)),
    (("self", ("all", 2, P), ("self", ("all", 0, NOT_P), CLASH)), (("all", 2, P), ("all", 0, NOT_P))),
    (("self", ("all", 0, ALL), ("self", ALL, CLASH)), (("all", 0, ALL), P)),
    (("self", ("all", 0, ALL), ("step", SOME, CLASH)), (("all", 0, ALL), SOME)),
    (("step", ("some", 0, P), ("self", ALL, CLASH)), (("some", 0, P), ("all", 0, ALL))),
    (("either", OR, ("self", ALL, CLASH), CLASH_Q), (OR, ALL, NOT_Q)),
    (("self", ("all", 1, OR), ("either", OR, CLASH, CLASH_Q)), (("all", 1, OR), NOT_P, NOT_Q)),
    # A step needs no self, but it may stand ahead of it.
    (("self", ALL, ("step", SOME, CLASH)), (SOME, ALL)),
]

# Trees that don't show it of the row of sayings, whatever the yards.
WRONG = [
    # A name that is not among them, or only once, or denied only.
    (CLASH, ()),
    (CLASH, (P,)),
    (CLASH, (NOT_P,)),
    (CLASH, (P, P)),
    (CLASH, (NOT_P, NOT_P)),
    (CLASH, (P, NOT_Q)),
    (CLASH, (Q, NOT_P)),
    (CLASH, (Q, NOT_Q)),
    (CLASH, (("and", P, NOT_P),)),
    (CLASH, (("all", 0, P), ("all", 0, NOT_P))),
    (CLASH, (("some", 0, P), NOT_P)),
    (("clash", "q"), (P, NOT_P)),
    (("clash", "pp"), (P, NOT_P)),
    (("clash", ""), (P, NOT_P)),
    (("clash", P), (P, NOT_P)),
    (("clash", NOT_P), (P, NOT_P)),
    (("clash", ("p",)), (P, NOT_P)),
    (("clash", ["p"]), (P, NOT_P)),
    (("clash", AND), (AND, ("or", NOT_P, P))),
    # A saying that is not among them.
    (("both", AND, CLASH), ()),
    (("both", AND, CLASH), (P, NOT_P)),
    (("both", AND, CLASH), (("and", NOT_P, P),)),
    (("both", ("and", NOT_P, P), CLASH), (AND,)),
    (("both", AND, CLASH), (("and", AND, AND),)),
    (("both", AND, CLASH), (("all", 0, AND),)),
    (("either", OR, CLASH, CLASH_Q), (NOT_P, NOT_Q)),
    (("either", OR, CLASH_Q, CLASH), (("or", Q, P), NOT_P, NOT_Q)),
    (("step", SOME, CLASH), (P, NOT_P)),
    (("step", SOME, CLASH), (ALL,)),
    (("step", SOME, CLASH), (("some", 0, P), ALL)),
    (("self", ALL, CLASH), (P, NOT_P)),
    (("self", ALL, CLASH), (("all", 2, NOT_P), P)),
    (("self", ALL, CLASH), (P,)),
    # A saying of another form.
    (("both", OR, CLASH), (OR, NOT_P)),
    (("both", SOME, CLASH), (SOME, NOT_P)),
    (("both", ("all", 0, P), CLASH), (("all", 0, P), NOT_P)),
    (("both", P, CLASH), (P, NOT_P)),
    (("both", NOT_P, CLASH), (P, NOT_P)),
    (("either", AND, CLASH, CLASH), (AND,)),
    (("either", ("and", P, Q), CLASH, CLASH_Q), (("and", P, Q), NOT_P, NOT_Q)),
    (("either", P, CLASH, CLASH), (P, NOT_P)),
    (("either", SOME, CLASH, CLASH), (SOME, ALL, P, NOT_P)),
    (("self", SOME, CLASH), (SOME, NOT_P)),
    (("self", AND, CLASH), (AND,)),
    (("self", P, CLASH), (P, NOT_P)),
    (("self", NOT_P, CLASH), (P, NOT_P)),
    (("step", ALL, CLASH), (ALL, P)),
    (("step", ("all", 1, P), CLASH), (ALL, ("all", 1, P))),
    (("step", AND, CLASH), (AND,)),
    (("step", P, CLASH), (P, NOT_P)),
    (("step", NOT_P, CLASH), (P, NOT_P)),
    # Only one of the two parts leads to a clash.
    (("either", OR, CLASH, CLASH), (OR, NOT_P)),
    (("either", OR, CLASH, CLASH_Q), (OR, NOT_P)),
    (("either", OR, CLASH, CLASH_Q), (OR, NOT_Q)),
    (("either", OR, CLASH_Q, CLASH), (OR, NOT_P, NOT_Q)),
    (("either", ("or", P, NOT_P), CLASH, CLASH), (("or", P, NOT_P),)),
    (("either", OR, CLASH, ("either", OR, CLASH, CLASH)), (OR, NOT_P)),
    # Each part is added in its own tree alone.
    (("either", ("or", P, NOT_P), CLASH, CLASH), (("or", P, NOT_P), Q)),
    # A step leaves behind what is no all of its kind.
    (("step", SOME, CLASH), (SOME, NOT_P)),
    (("step", SOME, CLASH), (SOME, ("all", 0, NOT_P))),
    (("step", SOME, CLASH), (SOME, ("all", 2, NOT_P))),
    (("step", SOME, CLASH), (SOME, ("some", 1, NOT_P))),
    (("step", SOME, CLASH), (SOME, ("and", ALL, ALL))),
    (("step", SOME, CLASH), (SOME, ("all", 1, ALL))),
    (("step", ("some", 1, Q), CLASH), (("some", 1, Q), P, NOT_P)),
    (("step", ("some", 1, Q), CLASH), (("some", 1, Q), P, ALL)),
    (("step", ("some", 1, Q), CLASH), (("some", 1, Q), ("all", 1, P), ("all", 2, NOT_P))),
    (("step", ("some", 1, Q), ("step", SOME, CLASH)), (("some", 1, Q), SOME, ALL)),
    (("step", SOME, ("step", SOME, CLASH)), (SOME, ALL)),
    (("step", SOME, ("both", AND, CLASH)), (SOME, AND)),
    # The parts are not added without a both, an either or a self.
    (CLASH, (OR, NOT_P, NOT_Q)),
    (CLASH, (ALL, P)),
    (CLASH, (SOME, ALL)),
    (("both", ("and", P, AND), CLASH), (("and", P, AND),)),
    # Heads that are none.
    (("Clash", "p"), (P, NOT_P)),
    (("name", "p"), (P, NOT_P)),
    (("and", AND, CLASH), (AND,)),
    (("or", OR, CLASH, CLASH_Q), (OR, NOT_P, NOT_Q)),
    (("all", ALL, CLASH), (ALL, P)),
    (("some", SOME, CLASH), (SOME, ALL)),
    (("", AND, CLASH), (AND,)),
    (("self", ("all", 0, P), ("clash", "q")), (("all", 0, P), NOT_P)),
]

# Things in the place of a tree, a text, a number, a saying or a head: none is right there.
THINGS = NO_SAYINGS + [
    (CLASH,), [CLASH], ("clash",), ["clash", "p"], ("both",), ("either",), ("self",), ("step",), "clash", "both",
    ("clash", "p", "p"), ("clash", "p", CLASH), ((), (), ()), [[], [], []], ("holds", CLASH), ("both", None, None),
    ("either", None, None, None), ("self", 0, 1), ("step", True, False), ("both", [], CLASH), ("step", [], CLASH),
]


def nested(thing, depth, tuples):
    """The thing within as many tuples or lists of one."""
    for _ in range(depth):
        thing = (thing,) if tuples else [thing]
    return thing


def places(thing):
    """The ways to each place in the thing, its own too."""
    yield ()
    if isinstance(thing, tuple):
        for place, part in enumerate(thing):
            for way in places(part):
                yield (place,) + way


def part_at(thing, way):
    for place in way:
        thing = thing[place]
    return thing


def changed(thing, way, part):
    """The thing with the part at that place."""
    if way == ():
        return part
    return thing[:way[0]] + (changed(thing[way[0]], way[1:], part),) + thing[way[0] + 1:]


def right_ones():
    """Trees, rows and own, each of which is right."""
    for tree, row in RIGHT:
        yield tree, row, 0
        yield tree, row, 1
    for tree, row in RIGHT_OF_OWN:
        yield tree, row, 1


class Shows(unittest.TestCase):
    def test_right_ones(self):
        for tree, row, own in right_ones():
            self.assertIs(shows(tree, row, own), True, (tree, row, own))

    def test_self_shows_it_in_own_yards_alone(self):
        for tree, row in RIGHT_OF_OWN:
            self.assertIs(shows(tree, row, 0), False, (tree, row))

    def test_wrong_ones(self):
        for tree, row in WRONG:
            for own in (0, 1):
                self.assertIs(shows(tree, row, own), False, (tree, row, own))

    def test_each_kind_of_its_own(self):
        for some, other in itertools.product((0, 1, 2), repeat=2):
            row = (("some", some, P), ("all", other, NOT_P))
            for own in (0, 1):
                self.assertIs(shows(("step", row[0], CLASH), row, own), some == other)
            row = (("all", some, P), ("all", other, NOT_P))
            tree = ("self", row[0], ("self", row[1], CLASH))
            self.assertIs(shows(tree, row, 1), True)
            self.assertIs(shows(("self", row[0], CLASH), row, 1), False)

    def test_the_order_and_number_of_the_sayings_is_free(self):
        for tree, row, own in right_ones():
            self.assertIs(shows(tree, row[::-1], own), True, (tree, row, own))
            self.assertIs(shows(tree, row + row, own), True, (tree, row, own))
            self.assertIs(shows(tree, (R, OR) + row + (("all", 0, R), ("some", 2, R)), own), True, (tree, row, own))

    def test_each_saying_of_the_row_is_needed(self):
        needed = 0
        for tree, row, own in right_ones():
            for place in range(len(row)):
                rest = row[:place] + row[place + 1:]
                self.assertIs(shows(tree, rest, own), shown(tree, rest, own), (tree, rest, own))
                needed += not shown(tree, rest, own)
        self.assertGreater(needed, 100)

    def test_each_tree_with_each_row(self):
        trees = [tree for tree, row in RIGHT + RIGHT_OF_OWN]
        rows = [row for tree, row in RIGHT + RIGHT_OF_OWN + WRONG]
        for tree, row, own in itertools.product(trees, rows, (0, 1)):
            self.assertIs(shows(tree, row, own), shown(tree, row, own), (tree, row, own))

    def test_all_small_trees(self):
        sayings = (P, NOT_P, ("and", P, NOT_P), ("or", P, NOT_P), ("all", 0, NOT_P), ("some", 0, P), ("some", 1, P))
        leaves = [CLASH, CLASH_Q]
        inner = leaves + [(head, a, CLASH) for head in ("both", "self", "step") for a in sayings]
        inner += [("either", a, CLASH, CLASH) for a in sayings]
        trees = inner + [(head, a, tree) for head in ("both", "self", "step") for a in sayings for tree in inner]
        trees += [("either", a, one, other) for a in sayings[2:4] for one in inner for other in inner]
        rows = [row for size in range(8) for row in itertools.combinations(sayings, size)]
        found = 0
        for tree, row, own in itertools.product(trees, rows, (0, 1)):
            expected = shown(tree, row, own)
            self.assertIs(shows(tree, row, own), expected, (tree, row, own))
            found += expected
        self.assertGreater(found, 1000)

    def test_what_is_shown_holds_in_no_world(self):
        for tree, row, own in right_ones():
            for yard in YARDS:
                if own == 0 or is_own(yard):
                    for world in range(len(yard)):
                        self.assertFalse(all(said(yard, world, saying) for saying in row), (row, yard, world))


class AnyThing(unittest.TestCase):
    def test_what_is_no_tree(self):
        rows = [(), (P, NOT_P), (AND, OR, ALL, SOME, NOT_P, NOT_Q, P)]
        for thing, row, own in itertools.product(THINGS, rows, (0, 1)):
            self.assertIs(shows(thing, row, own), False, (thing, row))

    def test_sayings_are_no_trees(self):
        row = (P, NOT_P, AND, OR, ALL, SOME)
        for saying in row:
            for own in (0, 1):
                self.assertIs(shows(saying, row, own), False, saying)

    def test_other_things_in_each_place(self):
        for tree, row, own in right_ones():
            for way in places(tree):
                for thing in THINGS:
                    if thing != part_at(tree, way) or type(thing) is not type(part_at(tree, way)):
                        spoilt = changed(tree, way, thing)
                        self.assertIs(shows(spoilt, row, own), False, (spoilt, row))

    def test_a_list_in_the_place_of_each_tuple(self):
        for tree, row, own in right_ones():
            for way in places(tree):
                part = part_at(tree, way)
                if isinstance(part, tuple):
                    spoilt = changed(tree, way, list(part))
                    self.assertIs(shows(spoilt, row, own), False, (spoilt, row))

    def test_a_truth_in_the_place_of_each_number(self):
        spoilt_ones = 0
        for tree, row, own in right_ones():
            for way in places(tree):
                part = part_at(tree, way)
                if part in (0, 1) and isinstance(part, int):
                    spoilt = changed(tree, way, bool(part))
                    self.assertEqual(spoilt, tree)
                    self.assertIs(shows(spoilt, row, own), False, (spoilt, row))
                    spoilt_ones += 1
        self.assertGreater(spoilt_ones, 20)

    def test_a_part_left_out_or_one_more(self):
        for tree, row, own in right_ones():
            for way in places(tree):
                part = part_at(tree, way)
                if isinstance(part, tuple):
                    for worse in [part[:k] + part[k + 1:] for k in range(len(part))]:
                        spoilt = changed(tree, way, worse)
                        self.assertIs(shows(spoilt, row, own), False, (spoilt, row))
                    for more in (None, CLASH, P, "p", 0, ()):
                        for worse in (part + (more,), (more,) + part):
                            spoilt = changed(tree, way, worse)
                            self.assertIs(shows(spoilt, row, own), False, (spoilt, row))

    def test_thirty_deep(self):
        row = (P, NOT_P, AND, OR, ALL, SOME)
        for depth in range(36):
            for thing in THINGS:
                for tuples in (True, False):
                    inner = nested(thing, depth, tuples)
                    for tree in (inner, ("clash", inner), ("both", inner, CLASH), ("both", AND, inner), (inner, AND, CLASH)):
                        expected = tree in (CLASH, ("both", AND, CLASH))
                        self.assertIs(shows(tree, row, 1), expected, tree)
            for tuples in (True, False):
                self.assertIs(shows(nested(CLASH, depth, tuples), row, 0), depth == 0)

    def test_trees_thirty_deep(self):
        row = (AND, OR, ALL, NOT_Q)
        for depth in range(36):
            for thing in [CLASH] + THINGS[:40]:
                tree = thing
                for step in range(depth):
                    tree = [
                        ("both", AND, tree),
                        ("either", OR, tree, CLASH_Q),
                        ("self", ALL, tree),
                        ("either", OR, ("both", AND, CLASH), tree),
                    ][step % 4]
                expected = thing == CLASH and depth > 0
                self.assertIs(shows(tree, row, 1), expected, tree)
                self.assertIs(shows(tree, row, 0), expected and depth < 3, tree)

    def test_a_step_thirty_deep(self):
        for depth in range(1, 36):
            some = P
            other = NOT_P
            tree = CLASH
            spoilt = CLASH_Q
            for step in range(depth):
                some = ("some", step % 3, some)
                other = ("all", step % 3, other)
                tree = ("step", some, tree)
                spoilt = ("step", some, spoilt)
            for own in (0, 1):
                self.assertIs(shows(tree, (some, other), own), True)
                self.assertIs(shows(tree, (other, some), own), True)
                self.assertIs(shows(tree, (some,), own), False)
                self.assertIs(shows(spoilt, (some, other), own), False)
                self.assertIs(shows(tree[2], (some, other), own), False)

    def test_far_deeper(self):
        tree = CLASH
        for _ in range(3000):
            tree = ("both", AND, tree)
        self.assertIs(shows(tree, (AND,), 0), True)
        self.assertIs(shows(tree, (OR,), 0), False)

    def test_nothing_is_changed_and_the_same_is_told_again(self):
        for tree, row, own in list(right_ones()) + [(tree, row, 1) for tree, row in WRONG]:
            before = repr((tree, row))
            self.assertIs(shows(tree, row, own), shows(tree, row, own))
            self.assertEqual(repr((tree, row)), before)
        for thing in THINGS:
            before = repr(thing)
            shows(thing, (P, NOT_P), 0)
            self.assertEqual(repr(thing), before)


if __name__ == "__main__":
    unittest.main()
