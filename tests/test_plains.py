import unittest

from samples import P, Q, WRITINGS, YARDS, sayings_to_depth, wrapped
from worldyard.plains import deep, denied, plain
from worldyard.things import is_saying
from worldyard.truth import holds
from worldyard.writing import written

NOT_P = ("not", P)
NOT_Q = ("not", Q)

# Each saying with its plain form and that of its not.
FORMS = [
    (P, P, NOT_P),
    (NOT_P, NOT_P, P),
    (("not", NOT_P), P, NOT_P),
    (("not", ("not", NOT_P)), NOT_P, P),
    (("and", P, Q), ("and", P, Q), ("or", NOT_P, NOT_Q)),
    (("or", P, Q), ("or", P, Q), ("and", NOT_P, NOT_Q)),
    (("and", NOT_P, Q), ("and", NOT_P, Q), ("or", P, NOT_Q)),
    (("or", P, NOT_Q), ("or", P, NOT_Q), ("and", NOT_P, Q)),
    (("and", P, P), ("and", P, P), ("or", NOT_P, NOT_P)),
    (("all", 0, P), ("all", 0, P), ("some", 0, NOT_P)),
    (("all", 2, P), ("all", 2, P), ("some", 2, NOT_P)),
    (("some", 1, P), ("some", 1, P), ("all", 1, NOT_P)),
    (("some", 2, NOT_P), ("some", 2, NOT_P), ("all", 2, P)),
    (("not", ("and", P, Q)), ("or", NOT_P, NOT_Q), ("and", P, Q)),
    (("not", ("or", P, Q)), ("and", NOT_P, NOT_Q), ("or", P, Q)),
    (("not", ("all", 1, P)), ("some", 1, NOT_P), ("all", 1, P)),
    (("not", ("some", 0, P)), ("all", 0, NOT_P), ("some", 0, P)),
    (("not", ("not", ("and", P, Q))), ("and", P, Q), ("or", NOT_P, NOT_Q)),
    (("not", ("and", NOT_P, Q)), ("or", P, NOT_Q), ("and", NOT_P, Q)),
    (("all", 0, ("not", ("some", 1, NOT_P))), ("all", 0, ("all", 1, P)), ("some", 0, ("some", 1, NOT_P))),
    (
        ("and", ("not", ("or", P, Q)), ("some", 2, ("not", NOT_Q))),
        ("and", ("and", NOT_P, NOT_Q), ("some", 2, Q)),
        ("or", ("or", P, Q), ("all", 2, NOT_Q)),
    ),
    (
        ("not", ("or", ("and", P, ("all", 0, Q)), ("not", ("some", 1, ("or", Q, NOT_P))))),
        ("and", ("or", NOT_P, ("some", 0, NOT_Q)), ("some", 1, ("or", Q, NOT_P))),
        ("or", ("and", P, ("all", 0, Q)), ("all", 1, ("and", NOT_Q, P))),
    ),
]

# Each saying with how deep it is.
DEPTHS = [
    (P, 0),
    (NOT_P, 0),
    (("and", P, Q), 0),
    (("or", P, NOT_Q), 0),
    (("all", 0, P), 1),
    (("all", 2, P), 1),
    (("some", 0, P), 1),
    (("some", 2, P), 1),
    (("not", ("all", 1, P)), 1),
    (("all", 1, ("not", P)), 1),
    (("all", 0, ("all", 0, P)), 2),
    (("all", 0, ("some", 1, P)), 2),
    (("some", 2, ("all", 0, P)), 2),
    (("some", 1, ("not", ("some", 1, ("not", ("all", 2, P))))), 3),
    (("and", ("all", 0, P), Q), 1),
    (("and", P, ("some", 0, Q)), 1),
    (("and", ("all", 0, P), ("some", 0, Q)), 1),
    (("or", ("all", 0, ("some", 1, P)), ("all", 2, Q)), 2),
    (("or", ("all", 0, P), ("all", 2, ("some", 1, Q))), 2),
    (("or", ("all", 0, ("all", 0, ("all", 0, P))), ("some", 2, ("some", 1, Q))), 3),
    (("all", 0, ("and", ("some", 1, ("or", P, ("all", 2, Q))), ("some", 0, P))), 3),
    (("all", 0, ("and", ("some", 0, P), ("some", 1, ("or", ("all", 2, Q), P)))), 3),
]


def is_plain(saying):
    """Whether not stands ahead of names alone."""
    head = saying[0]
    if head == "name":
        return True
    if head == "not":
        return saying[1][0] == "name"
    return all(is_plain(part) for part in saying[1:] if isinstance(part, tuple))


def nested():
    return [wrapped(inner, depth) for inner in (P, NOT_Q) for depth in range(24)]


def samples():
    return [saying for saying, one, other in FORMS] + [saying for saying, text in WRITINGS] + nested()


def under(saying, heads, count):
    """The saying within as many others, by these heads in turn."""
    for step in range(count):
        head = heads[step % len(heads)]
        saying = head + (saying,)
    return saying


class Plain(unittest.TestCase):
    def test_each_form(self):
        for saying, expected, other in FORMS:
            self.assertEqual(plain(saying), expected, saying)

    def test_not_stands_ahead_of_names_alone(self):
        for saying in samples() + sayings_to_depth(2):
            told = plain(saying)
            self.assertTrue(is_saying(told), saying)
            self.assertTrue(is_plain(told), saying)

    def test_plain_of_a_plain_saying_is_the_saying(self):
        plains = [saying for saying in samples() + sayings_to_depth(2) if is_plain(saying)]
        self.assertGreater(len(plains), 100)
        for saying in plains:
            self.assertEqual(plain(saying), saying)
            self.assertEqual(repr(plain(saying)), repr(saying))

    def test_plain_twice_is_plain_once(self):
        for saying in samples() + sayings_to_depth(2):
            self.assertEqual(plain(plain(saying)), plain(saying))

    def test_two_nots_go_away(self):
        for saying in samples() + sayings_to_depth(1):
            self.assertEqual(plain(("not", ("not", saying))), plain(saying))
            self.assertEqual(plain(under(saying, [("not",)], 10)), plain(saying))
            self.assertEqual(plain(under(saying, [("not",)], 11)), denied(saying))

    def test_it_holds_in_just_the_same_worlds(self):
        for yard in YARDS[:-1]:
            for world in range(len(yard)):
                for saying in samples() + sayings_to_depth(1):
                    self.assertIs(holds(yard, world, plain(saying)), holds(yard, world, saying), (yard, world, saying))

    def test_small_sayings_hold_in_just_the_same_worlds(self):
        yard = YARDS[7]
        for saying in sayings_to_depth(2):
            told = [plain(saying), denied(saying)]
            for world in range(len(yard)):
                expected = holds(yard, world, saying)
                self.assertEqual([holds(yard, world, one) for one in told], [expected, not expected], (world, saying))

    def test_a_saying_within_a_hundred_others_and_some_more(self):
        for depth in (100, 130):
            saying = under(P, [("not",), ("all", 1)], depth)
            told = plain(saying)
            self.assertEqual(deep(told), depth // 2)
            self.assertTrue(is_plain(told))
        long = under(P, [("not",), ("some", 0)], 2000)
        self.assertEqual(written(plain(long)), "some 0 all 0 " * 500 + "p")
        self.assertEqual(written(denied(long)), "all 0 some 0 " * 500 + "not p")

    def test_nothing_is_changed_and_the_same_is_told_again(self):
        for saying in samples():
            before = repr(saying)
            self.assertEqual(plain(saying), plain(saying))
            self.assertEqual(repr(saying), before)


class Denied(unittest.TestCase):
    def test_each_form(self):
        for saying, other, expected in FORMS:
            self.assertEqual(denied(saying), expected, saying)

    def test_it_is_the_plain_form_of_the_not(self):
        for saying in samples() + sayings_to_depth(2):
            self.assertEqual(denied(saying), plain(("not", saying)))
            self.assertTrue(is_saying(denied(saying)), saying)
            self.assertTrue(is_plain(denied(saying)), saying)

    def test_denied_twice_is_the_plain_form(self):
        for saying in samples() + sayings_to_depth(2):
            self.assertEqual(denied(denied(saying)), plain(saying))

    def test_it_holds_in_just_the_other_worlds(self):
        for yard in YARDS[:-1]:
            for world in range(len(yard)):
                for saying in samples() + sayings_to_depth(1):
                    expected = not holds(yard, world, saying)
                    self.assertIs(holds(yard, world, denied(saying)), expected, (yard, world, saying))

    def test_nothing_is_changed_and_the_same_is_told_again(self):
        for saying in samples():
            before = repr(saying)
            self.assertEqual(denied(saying), denied(saying))
            self.assertEqual(repr(saying), before)


class Deep(unittest.TestCase):
    def test_each_form(self):
        for saying, expected in DEPTHS:
            self.assertEqual(deep(saying), expected, saying)

    def test_a_whole_number_is_told(self):
        for saying, expected in DEPTHS:
            self.assertEqual(repr(deep(saying)), str(expected))

    def test_what_each_head_adds(self):
        for a in samples():
            self.assertEqual(deep(("not", a)), deep(a))
            for kind in (0, 1, 2):
                self.assertEqual(deep(("all", kind, a)), deep(a) + 1)
                self.assertEqual(deep(("some", kind, a)), deep(a) + 1)
            for b in samples():
                self.assertEqual(deep(("and", a, b)), max(deep(a), deep(b)))
                self.assertEqual(deep(("or", a, b)), max(deep(a), deep(b)))

    def test_plain_and_denied_are_as_deep(self):
        for saying in samples() + [saying for saying, depth in DEPTHS] + sayings_to_depth(2):
            self.assertEqual(deep(plain(saying)), deep(saying), saying)
            self.assertEqual(deep(denied(saying)), deep(saying), saying)

    def test_a_saying_within_a_hundred_others_and_some_more(self):
        for depth in (100, 130, 2000):
            self.assertEqual(deep(under(P, [("all", 0), ("some", 2)], depth)), depth)
            self.assertEqual(deep(under(P, [("not",), ("some", 2)], depth)), depth // 2)
            self.assertEqual(deep(under(P, [("not",), ("and", Q)], depth)), 0)

    def test_nothing_is_changed_and_the_same_is_told_again(self):
        for saying in samples():
            before = repr(saying)
            self.assertEqual(deep(saying), deep(saying))
            self.assertEqual(repr(saying), before)


if __name__ == "__main__":
    unittest.main()
