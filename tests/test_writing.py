import copy
import unittest

from samples import NO_SAYINGS, P, Q, WRITINGS, sayings_to_depth, spoilt_in_one_place, wrapped
from worldyard.errors import NoSaying
from worldyard.writing import written


def words_of(saying):
    """The words of a saying, straight from the document's sentence."""
    if saying[0] == "name":
        return [saying[1]]
    words = [saying[0]]
    for part in saying[1:]:
        words += words_of(part) if isinstance(part, tuple) else [str(part)]
    return words


class Writing(unittest.TestCase):
    def test_each_form(self):
        for saying, text in WRITINGS:
            self.assertEqual(written(saying), text)

    def test_all_small_sayings(self):
        for saying in sayings_to_depth(2):
            self.assertEqual(written(saying), " ".join(words_of(saying)))

    def test_no_two_sayings_have_one_writing(self):
        sayings = sayings_to_depth(2)
        self.assertEqual(len({written(saying) for saying in sayings}), len(set(sayings)))

    def test_what_is_no_saying(self):
        for thing in NO_SAYINGS:
            with self.assertRaises(NoSaying, msg=repr(thing)):
                written(thing)

    def test_what_is_no_saying_deep_within(self):
        for thing in NO_SAYINGS:
            for depth in range(1, 31):
                with self.assertRaises(NoSaying, msg=repr((thing, depth))):
                    written(wrapped(thing, depth))

    def test_what_is_no_saying_in_each_place(self):
        whole = ("and", ("or", P, ("not", Q)), ("all", 0, ("some", 2, ("and", Q, P))))
        self.assertEqual(written(whole), "and or p not q all 0 some 2 and q p")
        for thing in NO_SAYINGS:
            for spoilt in spoilt_in_one_place(whole, thing):
                with self.assertRaises(NoSaying, msg=repr(spoilt)):
                    written(spoilt)

    def test_a_saying_within_a_hundred_others_and_some_more(self):
        for depth in (100, 130):
            saying = wrapped(P, depth)
            self.assertEqual(written(saying), " ".join(words_of(saying)))
        saying = P
        for _ in range(2000):
            saying = ("all", 1, saying)
        self.assertEqual(written(saying), "all 1 " * 2000 + "p")

    def test_nothing_is_changed_and_the_same_is_told_again(self):
        for saying, text in WRITINGS:
            before = repr(saying)
            self.assertEqual(written(saying), written(saying))
            self.assertEqual(repr(saying), before)
        for thing in NO_SAYINGS:
            before = repr(copy.deepcopy(thing))
            for _ in range(2):
                with self.assertRaises(NoSaying):
                    written(thing)
            self.assertEqual(repr(thing), before)


if __name__ == "__main__":
    unittest.main()
