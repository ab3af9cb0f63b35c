"""[3] and the interface's part seatedtwice/scenes.py: the class Scene."""

import itertools
import unittest

from seatedtwice.errors import BadScene
from seatedtwice.scenes import Scene

ROWS = ["one", "two", "three"]
MARKS = ["done", "seen"]


def scene_text(rows, marks, has_lots):
    lines = [f"row {row}" for row in rows] + [f"mark {mark}" for mark in marks] + ["lots"] * has_lots
    return "\n".join(lines)


class GoodScenes(unittest.TestCase):

    def test_each_number_of_rows_and_marks_with_and_without_lots(self):
        for many, borne, has_lots in itertools.product((1, 2, 3), (0, 1, 2), (False, True)):
            text = scene_text(ROWS[:many], MARKS[:borne], has_lots)
            with self.subTest(text):
                scene = Scene(text)
                self.assertEqual(scene.text, text)
                self.assertEqual(scene.rows, tuple(ROWS[:many]))
                self.assertEqual(scene.marks, tuple(MARKS[:borne]))
                self.assertIs(scene.has_lots, has_lots)

    def test_kinds_of_the_attributes(self):
        scene = Scene("row one\nmark done\nlots")
        self.assertIs(type(scene.text), str)
        self.assertIs(type(scene.rows), tuple)
        self.assertIs(type(scene.marks), tuple)
        self.assertIs(type(scene.has_lots), bool)

    def test_names_stand_in_the_order_of_the_lines(self):
        scene = Scene("row zz\nrow aa\nrow mm\nmark y\nmark x")
        self.assertEqual([scene.rows, scene.marks], [("zz", "aa", "mm"), ("y", "x")])

    def test_names_at_the_edges_of_length(self):
        scene = Scene("row a\nrow abcdefghijkl\nmark zzzzzzzzzzzz")
        self.assertEqual([scene.rows, scene.marks], [("a", "abcdefghijkl"), ("zzzzzzzzzzzz",)])


class WrongScenes(unittest.TestCase):

    def check(self, text, line):
        with self.subTest(text):
            with self.assertRaises(BadScene) as caught:
                Scene(text)
            self.assertEqual(caught.exception.line, line)

    def test_the_empty_text(self):
        self.check("", 1)

    def test_no_row_line(self):
        self.check("mark done", 1)
        self.check("lots", 1)
        self.check("mark done\nmark seen\nlots", 1)
        self.check("\n", 1)
        self.check(" ", 1)
        self.check("\nrow one", 1)

    def test_too_many_lines_of_a_kind(self):
        self.check("row one\nrow two\nrow three\nrow four", 4)
        self.check("row one\nrow two\nrow three\nrow four\nmark done", 4)
        self.check("row one\nmark done\nmark seen\nmark more", 4)
        self.check("row one\nmark done\nmark seen\nmark more\nlots", 4)
        self.check("row one\nrow two\nrow three\nmark done\nmark seen\nmark more", 6)
        self.check("row one\nlots\nlots", 3)

    def test_lines_in_a_wrong_order(self):
        self.check("mark done\nrow one", 1)
        self.check("lots\nrow one", 1)
        self.check("row one\nmark done\nrow two", 3)
        self.check("row one\nmark done\nrow two\nlots", 3)
        self.check("row one\nrow two\nmark done\nmark seen\nrow three", 5)

    def test_a_line_behind_lots(self):
        self.check("row one\nlots\nmark done", 3)
        self.check("row one\nlots\nrow two", 3)
        self.check("row one\nlots\n", 3)
        self.check("row one\nmark done\nlots\nmark seen", 4)
        self.check("row one\nrow two\nrow three\nmark done\nmark seen\nlots\nlots", 7)

    def test_doubled_names(self):
        self.check("row one\nrow one", 2)
        self.check("row one\nrow two\nrow one", 3)
        self.check("row one\nrow two\nrow two\nmark done", 3)
        self.check("row one\nmark one", 2)
        self.check("row one\nrow two\nmark two", 3)
        self.check("row one\nrow two\nmark done\nmark one", 4)
        self.check("row one\nmark done\nmark done", 3)

    def test_barred_words_are_no_names(self):
        for word in """row mark unmark lot lots takes gives next prev first last where nothing if else end times put
                swap turn sort gather by ahead behind is has with missing it and or not all some""".split():
            self.check(f"row {word}", 1)
            self.check(f"row one\nrow {word}", 2)
            self.check(f"row one\nmark {word}\nlots", 2)

    def test_names_of_wrong_letters_or_lengths(self):
        for name in ["abcdefghijklm", "One", "onE", "one1", "1", "a_b", "a-b", "a.", "(", "=", "\t", "a\t", "\xe9"]:
            self.check(f"row {name}", 1)
            self.check(f"row one\nrow two\nrow {name}", 3)
            self.check(f"row one\nmark {name}", 2)

    def test_words_too_many_or_too_few(self):
        self.check("row", 1)
        self.check("one", 1)
        self.check("row one two", 1)
        self.check("row one\nmark", 2)
        self.check("row one\nmark done seen", 2)
        self.check("row one\nrow", 2)
        self.check("row one\nlots all", 2)
        self.check("row one\nlots lots", 2)
        self.check("row one\nlots done", 2)

    def test_other_first_words(self):
        for line in ["rows two", "Row two", "ROW two", "lot", "lot two", "Lots", "marks done", "takes", "two row"]:
            self.check(f"row one\n{line}", 2)
            self.check(line, 1)

    def test_spaces(self):
        for line in ["row  one", " row one", "row one ", "row ", " row", "row  ", "rowone"]:
            self.check(line, 1)
            self.check(f"{line}\nrow two", 1)
        for line in ["mark  done", " mark done", "mark done ", " lots", "lots ", "mark ", " "]:
            self.check(f"row one\n{line}", 2)

    def test_empty_lines(self):
        self.check("row one\n", 2)
        self.check("row one\n\n", 2)
        self.check("row one\n\nrow two", 2)
        self.check("row one\nrow two\nrow three\nmark done\nmark seen\nlots\n", 7)
        self.check("row one\nmark done\n\nlots", 3)

    def test_the_first_of_several_wrong_lines(self):
        self.check("row one\nrow 2\nrow 3\nmark", 2)
        self.check("row one\nmark done\nrow two\nrow two\nlots\nlots", 3)
        self.check("row\nrow\nrow", 1)


class EqualScenes(unittest.TestCase):

    def test_equal_if_their_texts_are_equal(self):
        texts = [scene_text(rows, marks, has_lots)
                 for rows in (["one"], ["two"], ["one", "two"], ["two", "one"])
                 for marks in ([], ["done"], ["seen"], ["seen", "done"])
                 for has_lots in (False, True)]
        for text, other in itertools.product(texts, texts):
            self.assertIs(Scene(text) == Scene(other), text == other)
            self.assertIs(Scene(text) != Scene(other), text != other)

    def test_no_scene_is_equal_to_other_objects(self):
        for other in ["row one", None, 1, ("row one",)]:
            self.assertFalse(Scene("row one") == other)
            self.assertTrue(Scene("row one") != other)


if __name__ == "__main__":
    unittest.main()
