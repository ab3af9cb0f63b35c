"""[2]: lines and names; [5]: the names that a form gives."""

import string
import unittest

from seatedtwice.names import WORDS, form_names, is_name, lines_of

BARRED = """row mark unmark lot lots takes gives next prev first last where nothing if else end times put swap turn
sort gather by ahead behind is has with missing it and or not all some""".split()


class Lines(unittest.TestCase):

    def test_the_empty_text_has_none(self):
        self.assertEqual(lines_of(""), [])

    def test_lines(self):
        self.assertEqual(lines_of("a"), ["a"])
        self.assertEqual(lines_of("a b\nc"), ["a b", "c"])
        self.assertEqual(lines_of(" "), [" "])

    def test_empty_lines_count(self):
        self.assertEqual(lines_of("\n"), ["", ""])
        self.assertEqual(lines_of("a\n"), ["a", ""])
        self.assertEqual(lines_of("\n\na"), ["", "", "a"])


class Names(unittest.TestCase):

    def test_letters(self):
        for name in ["a", "z", "it" * 6, "abcdefghijkl", "rows", "marks", "lotss", "walk", "zzzzzzzzzzzz"]:
            self.assertTrue(is_name(name), name)

    def test_lengths(self):
        for many in range(1, 13):
            self.assertTrue(is_name("q" * many))
        for many in (0, 13, 14, 100):
            self.assertFalse(is_name("q" * many))

    def test_barred_words(self):
        self.assertEqual(sorted(WORDS), sorted(BARRED))
        for word in BARRED:
            self.assertFalse(is_name(word), word)

    def test_words_that_are_near(self):
        for word in BARRED:
            self.assertTrue(is_name(word + "q"), word)

    def test_each_other_sign(self):
        for sign in [chr(code) for code in range(32, 127)] + ["\n", "\t", "\x00", "\xe9", "\xdf", "\u0431"]:
            if sign not in string.ascii_lowercase:
                for text in (sign, "a" + sign, sign + "a", "a" + sign + "a"):
                    self.assertFalse(is_name(text), repr(text))


class FormNames(unittest.TestCase):

    def test_up_to_26(self):
        for many in range(27):
            self.assertEqual(form_names(many), list(string.ascii_lowercase[:many]))

    def test_beyond_26_they_stay_names_and_different(self):
        names = form_names(697)
        self.assertEqual(names[26:29], ["aa", "ab", "ac"])
        self.assertEqual(len(set(names)), 697)
        self.assertEqual([name for name in names if not is_name(name)], [])
        self.assertEqual(names[-1], "zz")


if __name__ == "__main__":
    unittest.main()
