"""[4]: the words of a text."""

import random
import unittest

from eatenorders import signs
from eatenorders.signs import number_of, text_of, word_of, words
from tests.checks import NO_END, Case, ended

EXAMPLES = r"""
    >>> words("pieces -1 0 # a remark\n2 07-")
    [('pieces', 0), ('-1', 0), ('0', 0), ('2', 1), ('07-', 1)]
    >>> text_of([("row", 0), ("0", 0), ("plan", 2)]), words("row 0\n\nplan")
    ('row 0\n\nplan\n', [('row', 0), ('0', 0), ('plan', 2)])
    >>> number_of("07"), number_of("120"), number_of("-0"), number_of("-12"), word_of(-7), words("")
    (None, 120, None, -12, '-7', [])
    >>> words("row a\nB")
    raises BadText(line=1)
    >>> words("a.b")
    raises BadText(line=0)
"""

WORD_SIGNS = "abcdefghijklmnopqrstuvwxyz0123456789-"

ALL_SIGNS = "".join(chr(code) for code in range(32, 127))


def random_words(rng):
    """WORDS by chance, in up to six lines, some of them empty."""
    lines = sorted(rng.randrange(6) for _ in range(rng.randrange(9)))
    return [("".join(rng.choice(WORD_SIGNS) for _ in range(rng.randrange(1, 5))), line) for line in lines]


class Examples(Case):

    def test_examples(self):
        self.examples(EXAMPLES, dict(vars(signs)))


class Words(Case):

    def test_words_and_their_lines(self):
        self.gives(words, ("a",), [("a", 0)])
        self.gives(words, ("  a   b\n c\n\n  d e  ",), [("a", 0), ("b", 0), ("c", 1), ("d", 3), ("e", 3)])
        self.gives(words, ("\n\na\n",), [("a", 2)])
        self.gives(words, ("a-b --9 - 0a",), [("a-b", 0), ("--9", 0), ("-", 0), ("0a", 0)])

    def test_texts_without_words(self):
        for text in ("", " ", "    ", "\n", "\n\n\n", "\n" * 1000, " \n  \n", "#", "# A.B!", "#\n#", "  # ~\n\n #"):
            self.gives(words, (text,), [])

    def test_a_remark_hides_what_stands_behind_it_in_its_line(self):
        self.gives(words, ("a # b\nc",), [("a", 0), ("c", 1)])
        self.gives(words, ("a#b c\nd#",), [("a", 0), ("d", 1)])
        self.gives(words, ("#a\nb",), [("b", 1)])
        self.gives(words, ("a # b # c\nd # #\n# e\nf",), [("a", 0), ("d", 1), ("f", 3)])
        self.gives(words, ("a #" + ALL_SIGNS + "\nb",), [("a", 0), ("b", 1)])

    def test_words_of_whatever_length(self):
        for long in (13, 100, 100000):
            self.assertEqual(words("a" * long + " " + "7" * long), [("a" * long, 0), ("7" * long, 0)])
        self.gives(words, (WORD_SIGNS,), [(WORD_SIGNS, 0)])

    def test_each_sign(self):
        for sign in ALL_SIGNS:
            if sign in WORD_SIGNS:
                self.gives(words, (sign,), [(sign, 0)])
                self.gives(words, ("a\n b" + sign + "c",), [("a", 0), ("b" + sign + "c", 1)])
            elif sign == " ":
                self.gives(words, ("a\n b" + sign + "c",), [("a", 0), ("b", 1), ("c", 1)])
            elif sign == "#":
                self.gives(words, ("a\n b" + sign + "c",), [("a", 0), ("b", 1)])
            else:
                self.refuses(words, (sign,), "BadText(line=0)")
                self.refuses(words, ("a\n b" + sign + "c",), "BadText(line=1)")
                self.refuses(words, ("a\n\nb " + sign + " # c",), "BadText(line=2)")

    def test_the_first_fault_is_told(self):
        self.refuses(words, ("a\nB\nC",), "BadText(line=1)")
        self.refuses(words, ("# B\n# C\n\na B\nC",), "BadText(line=3)")
        self.refuses(words, ("a_b",), "BadText(line=0)")
        self.refuses(words, ("\n" * 50 + "!",), "BadText(line=50)")
        self.refuses(words, ("a # B\n(",), "BadText(line=1)")

    def test_more_blanks_and_remarks_tell_the_same(self):
        rng = random.Random(4)
        for _ in range(300):
            told = random_words(rng)
            rows = text_of(told).split("\n")
            wider = [row.replace(" ", " " * rng.randrange(1, 4)) for row in rows]
            remarked = [" " * rng.randrange(3) + row + rng.choice(["", " ", "#", " # B.", "   #a 1"]) for row in wider]
            self.assertEqual(words("\n".join(remarked)), told)

    def test_a_line_break_more_puts_later_words_one_line_on(self):
        rng = random.Random(5)
        for _ in range(300):
            told = random_words(rng)
            if len(told) > 1:
                cut = rng.randrange(1, len(told))
                head = text_of(told[:cut])[:-1]
                here, there = told[cut - 1][1], told[cut][1]
                tail = "\n" * (there - here) + text_of([(word, line - there) for word, line in told[cut:]])
                self.assertEqual(words(head + " " + tail), told)
                moved = told[:cut] + [(word, line + 1) for word, line in told[cut:]]
                self.assertEqual(words(head + " \n " + tail), moved)


class Texts(Case):

    def test_text_of(self):
        self.gives(text_of, ((),), "")
        self.gives(text_of, ((("a", 0),),), "a\n")
        self.gives(text_of, ((("a", 0), ("b", 0)),), "a b\n")
        self.gives(text_of, ((("a", 2),),), "\n\na\n")
        self.gives(text_of, ((("a", 0), ("-", 1), ("0", 4), ("z9", 4)),), "a\n-\n\n\n0 z9\n")
        self.assertEqual(text_of([]), "")

    def test_text_of_far_lines_and_long_words(self):
        self.assertEqual(text_of([("a", 10 ** 6)]), "\n" * 10 ** 6 + "a\n")
        self.assertEqual(text_of([("ab" * 50000, 0)]), "ab" * 50000 + "\n")

    def test_words_tells_just_these_words(self):
        rng = random.Random(6)
        for _ in range(500):
            told = random_words(rng)
            text = text_of(told)
            self.assertEqual(words(text), told)
            self.assertEqual(text.count("\n"), told[-1][1] + 1 if told else 0)
            self.assertNotIn("  ", text)
            self.assertNotIn(" \n", text)
            self.gives(text_of, (tuple(told),), text)

    def test_what_are_no_words_is_refused(self):
        for bad in (None, "", "a", 0, True, {}, {("a", 0)}, ("a", 0), ("a0",), (None,), (0,), ((),), (("a",),),
                    (("a", 0, 0),), ((0, "a"),), (("", 0),), (("A", 0),), (("a b", 0),), (("a\n", 0),), (("a#", 0),),
                    ((None, 0),), ((1, 0),), ((("a",), 0),), (("a", True),), (("a", None),), (("a", "0"),), (("a", -1),),
                    (("a", 0.0),), (("a", 1), ("b", 0)), (("a", 0), ("b", 2), ("c", 1)), (("a", 0), "b0")):
            self.unfit(text_of, bad)
        for bad in NO_END:
            self.unfit(text_of, bad)
            self.unfit(text_of, [bad])
            self.unfit(text_of, [["a", 0], ["b", bad]])


class Numbers(Case):

    def test_number_words(self):
        for number in (0, 1, 9, 10, 100, 909, 10 ** 11, 10 ** 12 - 1, 123456789012):
            self.gives(number_of, (str(number),), number)
            self.gives(word_of, (number,), str(number))
            if number:
                self.gives(number_of, ("-" + str(number),), -number)
                self.gives(word_of, (-number,), "-" + str(number))

    def test_no_number_words(self):
        for word in ("", "-", "--", "00", "01", "-0", "-00", "-01", "000000000000", "--1", "1-", "1-1", "a", "a1", "1a",
                     "+1", " 1", "1 ", "1\n", "\n1", "1.0", "1_0", "1,000", "0x1", "1e3", "\u0663", "\u00b2", "\uff11",
                     "1000000000000", "-1000000000000", "9999999999999", "1" * 13, "1" * 5000, "-" + "1" * 13):
            self.gives(number_of, (word,), None)

    def test_twelve_figures_are_the_most(self):
        self.gives(number_of, ("9" * 12,), 10 ** 12 - 1)
        self.gives(number_of, ("-" + "9" * 12,), 1 - 10 ** 12)
        self.gives(number_of, ("9" * 13,), None)
        self.gives(number_of, ("-" + "9" * 13,), None)

    def test_there_and_back(self):
        rng = random.Random(7)
        for _ in range(500):
            number = rng.randrange(-10 ** rng.randrange(1, 13) + 1, 10 ** rng.randrange(1, 13))
            self.assertEqual(number_of(word_of(number)), number)
            self.assertIs(type(number_of(word_of(number))), int)
            self.assertEqual(words(word_of(number)), [(word_of(number), 0)])

    def test_there_is_no_other_word_of_a_number(self):
        for first in "-0129":
            for second in ["", *"-0129"]:
                for third in ["", *"-0129"]:
                    word = first + second + third
                    if number_of(word) is not None:
                        self.assertEqual(word_of(number_of(word)), word)
                    else:
                        self.assertNotIn(word, [str(number) for number in range(-999, 1000)])
        self.assertEqual(ended(number_of, ("120",)), "120")


if __name__ == "__main__":
    unittest.main()
