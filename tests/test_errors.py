import unittest

from worldyard.errors import NoSaying, NoText, NoWorld, YardError

REFUSALS = [NoSaying, NoText, NoWorld]


class Errors(unittest.TestCase):
    def test_any_refusal_is_a_value_error(self):
        self.assertTrue(issubclass(YardError, ValueError))

    def test_each_refusal_stands_below_yard_error(self):
        for refusal in REFUSALS:
            self.assertTrue(issubclass(refusal, YardError), refusal)
            self.assertFalse(issubclass(YardError, refusal), refusal)

    def test_no_refusal_stands_below_another(self):
        for one in REFUSALS:
            for other in REFUSALS:
                self.assertEqual(issubclass(one, other), one.__name__ == other.__name__, (one, other))

    def test_each_is_raised_and_taken_by_the_names_above_it(self):
        for refusal in REFUSALS:
            for above in (refusal, YardError, ValueError):
                with self.assertRaises(above):
                    raise refusal("refused")


if __name__ == "__main__":
    unittest.main()
