import itertools
import unittest

from samples import P, WRITINGS, sayings_to_depth, wrapped
from worldyard.errors import NoSaying, NoText, NoWorld, YardError
from worldyard.reading import read
from worldyard.writing import written

NO_TEXTS = [
    # Nothing, and blanks that are not to be.
    "", " ", "  ", " p", "p ", " p ", "  p", "p  ", "not  p", " not p", "not p ", "and p  q", "and  p q", "all  0 p",
    "all 0  p", "all 0 p ", " all 0 p", "not", "not ", " not", "p  q",
    # A word too few.
    "and", "or", "all", "some", "and p", "or p", "all 0", "some 2", "all p", "some p", "not not", "and not p",
    "and p not", "or and p q", "or p and q", "all 0 not", "not all 0", "all 0 some 1", "all 0 and p", "and all 0 p",
    "and p all 0", "and all 0 p some 1", "and and p q", "or or p q", "and or p q", "not and p", "all 0 all p",
    "all all 0 p", "some all p", "and 0 p",
    # A word too many.
    "p q", "p p", "not p q", "not p not", "and p q p", "or p q not p", "all 0 p q", "some 1 p p", "p not", "p and",
    "p not p", "p and q", "p or q", "p 0", "0 p", "not p 0", "and p q 1", "all 0 p 0", "all 0 p all 0 p", "name p",
    "and name p name q", "not all 0 p q",
    # Kinds that are none, or are written otherwise.
    "all 3 p", "some 3 p", "all 9 p", "all 00 p", "some 00 p", "all 01 p", "some 02 p", "all 10 p", "all 12 p",
    "all +1 p", "some +1 p", "all -1 p", "some -0 p", "all 0.0 p", "all 1. p", "some 1_ p", "all 0_1 p", "all 0x1 p",
    "all (0) p", "all k p", "some one p", "all K p", "all 012 p", "all 0,1 p", "all \"0\" p",
    # Kinds where none belong.
    "0", "1", "2", "not 0", "not 0 p", "and 0 1", "and p 0", "or 2 q", "or 1 p q", "all 0 0", "all 0 1", "all 0 1 p",
    "some 0 0 p", "all p 0", "some p 2", "and p 0 q", "0 all p", "all 0 all 1", "0 1", "2 p 1",
    # Words run together or apart.
    "notpq", "not pnotq", "all0 p", "all 0p", "some2 p", "andp q", "and pq", "no t p", "al l 0 p", "not,p",
    # Great letters.
    "P", "pQ", "Not p", "NOT p", "AND p q", "Or p q", "ALL 0 p", "Some 1 p", "not P", "and p Q", "all 0 P", "or P q",
    # Names that are none.
    "abcde", "names", "not abcde", "and p rains", "all 0 abcde", "or abcde q", "abcdefgh", "p1", "1p", "p_", "_p",
    "-p", "p.", "p'", "a-b", "3", "42", "not 3",
    # Other signs.
    "(not p)", "not(p)", "~p", "!p", "p&q", "p|q", "[0]p", "<1>p", "and(p, q)", "and p, q", "('name', 'p')",
    "\"p\"", "'p'", "p;", "#", "@", "`", "{", "}", "~", "p ~", "not ~", "*", "all * p", "$p", "p\\",
]

# All of these as words, in every order.
VOCABULARY = ["p", "q", "not", "and", "or", "all", "some", "0", "2", "3", "00", "P", ""]


def sayings_of(size):
    """Every saying of so many words that the vocabulary has."""
    if size == 1:
        return [("name", "p"), ("name", "q")]
    if size < 1:
        return []
    found = [("not", a) for a in sayings_of(size - 1)]
    for first in range(1, size - 1):
        pairs = itertools.product(sayings_of(first), sayings_of(size - 1 - first))
        found += [(head, a, b) for a, b in pairs for head in ("and", "or")]
    found += [(head, kind, a) for a in sayings_of(size - 2) for head in ("all", "some") for kind in (0, 2)]
    return found


def parsed(words):
    """The saying at the words' begin and the words behind it, or None: the document's sentence, from the front on."""
    if not words:
        return None
    word, rest = words[0], words[1:]
    if word in ("all", "some"):
        if not rest or rest[0] not in ("0", "1", "2"):
            return None
        inner = parsed(rest[1:])
        return inner and ((word, int(rest[0]), inner[0]), inner[1])
    if word in ("not", "and", "or"):
        one = parsed(rest)
        if word == "not" or one is None:
            return one and (("not", one[0]), one[1])
        other = parsed(one[1])
        return other and ((word, one[0], other[0]), other[1])
    if 1 <= len(word) <= 4 and all("a" <= sign <= "z" for sign in word):
        return ("name", word), rest
    return None


def expected_of(text):
    """What the text is to be read to, or None where it is to be refused."""
    found = parsed(text.split(" "))
    return found[0] if found and not found[1] else None


def changed_in_one_sign(text):
    """Each text that comes of a sign more, a sign less or another sign in one place."""
    signs = [chr(code) for code in range(ord(" "), ord("~") + 1)]
    for place in range(len(text) + 1):
        for sign in signs:
            yield text[:place] + sign + text[place:]
            yield text[:place] + sign + text[place + 1:]
        yield text[:place] + text[place + 1:]


class Reading(unittest.TestCase):
    def refused(self, text):
        with self.assertRaises(NoText, msg=repr(text)):
            read(text)

    def checked(self, text, expected):
        if expected is None:
            self.refused(text)
        else:
            self.assertEqual(read(text), expected, text)

    def test_each_form(self):
        for saying, text in WRITINGS:
            self.assertEqual(read(text), saying)

    def test_the_very_same_kinds_come_back(self):
        # A truth or a list would be equal to some eyes, but not written the same by Python.
        for saying, text in WRITINGS:
            self.assertEqual(repr(read(text)), repr(saying))

    def test_all_small_sayings_are_read_back_from_their_writing(self):
        for saying in sayings_to_depth(2):
            self.assertEqual(read(written(saying)), saying)

    def test_what_is_read_is_written_the_same(self):
        for saying, text in WRITINGS:
            self.assertEqual(written(read(text)), text)

    def test_other_texts(self):
        for text in NO_TEXTS:
            self.refused(text)

    def test_other_texts_with_more_words_ahead(self):
        for ahead in ("not ", "and p ", "or q ", "all 1 ", "some 2 "):
            for text in ("", "and p", "p q", "all 3 p", "all 00 p", "P", "abcde", "0", "p ", " p", "not", "+1", "all p"):
                self.refused(ahead + text)

    def test_every_row_of_a_few_words(self):
        for size in range(1, 5):
            writings = {written(saying): saying for saying in sayings_of(size)}
            self.assertNotEqual(writings, {})
            for words in itertools.product(VOCABULARY, repeat=size):
                text = " ".join(words)
                self.checked(text, writings.get(text))

    def test_longer_sayings(self):
        for size in (5, 6):
            for saying in sayings_of(size):
                self.assertEqual(read(written(saying)), saying)

    def test_writings_with_one_sign_changed(self):
        for saying, text in WRITINGS:
            for other in changed_in_one_sign(text):
                self.checked(other, expected_of(other))

    def test_writings_cut_off_or_run_on(self):
        for saying, text in WRITINGS:
            words = text.split(" ")
            for place in range(len(words)):
                self.refused(" ".join(words[:place]))
            for word in VOCABULARY:
                self.refused(text + " " + word)

    def test_each_sign_as_a_text(self):
        for code in range(ord(" "), ord("~") + 1):
            sign = chr(code)
            for text in (sign, sign + "b", "b" + sign, "bbb" + sign):
                self.checked(text, ("name", text) if "a" <= sign <= "z" else None)

    def test_each_short_row_of_signs_as_a_kind(self):
        signs = [chr(code) for code in range(ord(" "), ord("~") + 1)]
        for length in range(3):
            for row in itertools.product(signs, repeat=length):
                kind = "".join(row)
                for head in ("all", "some"):
                    self.checked(f"{head} {kind} p", (head, int(kind), P) if kind in ("0", "1", "2") else None)

    def test_names_are_one_to_four_letters(self):
        for length in range(1, 7):
            for name in ("abcdef"[:length], "zzzzzz"[:length], "somnot"[:length]):
                self.checked(name, ("name", name) if length < 5 else None)

    def test_words_of_the_language_are_no_names(self):
        for word in ("not", "and", "or", "all", "some"):
            self.refused(word)
            self.refused("not " + word)
            self.refused("and p " + word)
            self.refused("all 0 " + word)

    def test_a_saying_within_a_hundred_others_and_some_more(self):
        for depth in (100, 130):
            saying = wrapped(P, depth)
            self.assertEqual(read(written(saying)), saying)
            self.refused(written(saying) + " p")
        for ahead in ("not ", "all 1 ", "and p ", "some 2 "):
            text = ahead * 2000 + "p"
            self.assertEqual(written(read(text)), text)
            self.refused(ahead * 2000)
            self.refused(ahead * 2000 + "0")
            self.refused(text + " p")

    def test_the_refusal_is_no_other_one(self):
        for text in NO_TEXTS:
            for above in (NoText, YardError, ValueError):
                with self.assertRaises(above):
                    read(text)
            try:
                read(text)
            except ValueError as refusal:
                self.assertNotIsInstance(refusal, (NoSaying, NoWorld), text)

    def test_the_same_is_told_again(self):
        for saying, text in WRITINGS:
            self.assertEqual(read(text), saying)
            self.assertEqual(read(text), saying)
        for text in NO_TEXTS:
            for _ in range(2):
                self.refused(text)


if __name__ == "__main__":
    unittest.main()
