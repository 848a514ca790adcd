import unittest

from worldyard.asking import settled


class Settled(unittest.TestCase):
    def test_what_is_told_at_once(self):
        self.assertEqual(settled(3, lambda question, known: ("told", question)), ("told", 3))

    def test_what_hangs_on_others(self):
        def rabbits(question, known):
            if question < 2:
                return ("told", question)
            for other in (question - 1, question - 2):
                if other not in known:
                    return ("ask", other)
            return ("told", known[question - 1][1] + known[question - 2][1])

        self.assertEqual(settled(10, rabbits), ("told", 55))
        self.assertEqual(settled(2000, rabbits)[1] % 1000, 125)

    def test_each_question_is_answered_once(self):
        answered = []

        def sides(question, known):
            missing = [other for other in range(question) if other not in known]
            if missing:
                return ("ask", missing[-1])
            answered.append(question)
            return ("told", question)

        settled(12, sides)
        self.assertEqual(answered, list(range(13)))


if __name__ == "__main__":
    unittest.main()
