"""[6]: the lines of a script and its blocks, and the attributes of the class Script."""

import random
import unittest

from seatedtwice.errors import BadScript
from seatedtwice.scenes import Scene
from seatedtwice.scripts import Script
from seatedtwice.worlds import World
from tests import plain, plain_texts
from tests.made import Maker, spoiled

PLAIN = Scene("row one")
MARKED = Scene("row one\nrow two\nmark done\nmark seen")
FULL = Scene("row one\nrow two\nrow three\nmark done\nmark seen\nlots")

GOOD_LINES = """a = next b one
a = next a two
a = next b one where it has done
a = prev b two
a = prev b one where it ahead b two and not it missing
a = first one
a = first two where it is b or it has seen
a = last two
a = last one where ( it has done )
a = b
a = a
a = nothing
put a behind b one
put a ahead b two
put a ahead a two
swap a b one
swap a a two
turn one
turn two
sort one by two
sort two by two
gather one where it has done
gather two where a missing
mark a done
mark b seen
unmark a done
unmark b seen
one = next two one
two = one
done = first one where done ahead it one
mark done done
unmark one seen
put one behind two two
swap seen done one
abcdefghijkl = zzzzzzzzzzzz""".split("\n")

BAD_LINES = """
takes
takes a
gave a
a
a =
a b
= a
a = b c
a = a = b
a == b
a= b
a =b
a =  b
a  = b
 a = b
a = b .
a = it
it = a
it = nothing
nothing = a
nothing = nothing
next = a
A = b
a = B
a1 = b
a = b1
abcdefghijklm = a
a = abcdefghijklm
a = next b
a = next one
a = next b three
a = next b done
a = next b a
a = next b one two
a = next nothing one
a = next it one
a = next b one where
a = next b one if a missing
a = next b one it missing
a = next b where it missing one
a = where it missing
a = next b one where it
a = next b one where it missing where it missing
a = prev b
a = prev b three
a = prev b one where
a = prev one where it missing
a = first
a = first b one
a = first three
a = first a
a = first one two
a = first one where
a = first where it missing
a = last
a = last b one
a = last three
a = last one where
a = second one
next b one
if
if a
if a and
if it missing
if it is a
if a is it
if a missing then
if ( a missing
if a missing )
if where a missing
if not
put a b one
put a behind b
put a behind one
put a behind b three
put a behind it one
put it behind a one
put nothing behind a one
put a behind nothing one
put a before b one
put a next b one
put behind a b one
put a behind b one two
put a ahead b
put a ahead b done
put
swap a b
swap a one
swap a b three
swap a b done
swap a it one
swap nothing b one
swap a and b one
swap a b one one
swap
turn
turn three
turn done
turn a
turn one two
turn one by two
sort
sort one
sort one two
sort one by
sort by one
sort one by three
sort three by one
sort done by one
sort one by done
sort one by two two
sort one as two
gather
gather one
gather one where
gather where it missing
gather three where it missing
gather done where it missing
gather one it missing
gather one if it missing
gather one two where it missing
gather one where it missing where it missing
mark
mark a
mark done
mark a one
mark a more
mark it done
mark nothing done
mark a done seen
mark done a
unmark
unmark a
unmark done
unmark a one
unmark it done
unmark nothing seen
unmark a done seen
row one
mark done done done
lot a
lots
end end
end a
end if
else if a missing
else a
times
times 0
times 6
times 10
times 01
times one
times a
times -1
times 1 2
times 1 a
time 1
nothing
.""".split("\n")


class Reading(unittest.TestCase):

    def check(self, scene, text, line):
        with self.subTest(text, scene=scene.text):
            with self.assertRaises(BadScript) as caught:
                Script(scene, text)
            self.assertEqual(caught.exception.line, line)

    def check_line(self, line, scene=MARKED):
        """The line is wrong where lines may stand, at the beginning, in blocks, and as the last one."""
        self.check(scene, f"takes a\n{line}\ngives a", 2)
        self.check(scene, f"takes a\n{line}", 2)
        self.check(scene, f"takes a\nb = a\nif a missing\n{line}\nend\ngives a", 4)
        self.check(scene, f"takes a\ntimes 2\nb = a\n{line}", 4)


class GoodScripts(Reading):

    def test_each_form_of_a_line(self):
        for line in GOOD_LINES:
            for text in [f"takes a\n{line}\ngives a", f"takes\nif a missing\n{line}\nelse\n{line}\nend\n{line}\ngives",
                         f"takes a b\ntimes 2\n{line}\n{line}\nend\ngives b a"]:
                with self.subTest(text):
                    self.assertEqual(Script(MARKED, text).text, text)
        text = "\n".join(["takes", *GOOD_LINES, "gives"])
        self.assertEqual(Script(MARKED, text).text, text)

    def test_attributes(self):
        script = Script(MARKED, "takes a b\nc = next a one\ngives c a")
        self.assertEqual([script.scene, script.text], [MARKED, "takes a b\nc = next a one\ngives c a"])
        self.assertEqual([script.takes, script.gives, script.walks], [("a", "b"), ("c", "a"), 1])
        self.assertEqual([type(script.takes), type(script.gives), type(script.walks)], [tuple, tuple, int])

    def test_each_number_of_inputs_and_outputs(self):
        for takes in [[], ["a"], ["a", "b"], ["one"], ["done", "one"]]:
            for gives in [[], ["a"], ["b"], ["a", "b"], ["a", "a"], ["one", "done"], ["new", "new"]]:
                text = "\n".join([" ".join(["takes", *takes]), " ".join(["gives", *gives])])
                script = Script(MARKED, text)
                self.assertEqual([script.takes, script.gives, script.walks], [tuple(takes), tuple(gives), 0])

    def test_blocks(self):
        for lines in [["if a missing", "end"], ["if a missing", "else", "end"], ["times 1", "end"], ["times 5", "end"],
                      ["if a missing", "times 2", "end", "else", "if b missing", "else", "end", "end"],
                      ["times 3", "if a is b", "a = b", "else", "end", "end"],
                      ["if a missing", "end", "if a missing", "else", "a = b", "end"]]:
            text = "\n".join(["takes a b", *lines, "gives a"])
            self.assertEqual(Script(PLAIN, text).text, text)

    def test_ten_blocks_and_again_ten(self):
        for opened in [["if a missing"] * 10, ["times 1"] * 10, ["if a missing", "times 2"] * 5]:
            lines = [*opened, *["end"] * 10]
            self.assertEqual(Script(PLAIN, "\n".join(["takes", *lines, *lines, "gives"])).walks, 0)
        Script(PLAIN, "\n".join(["takes", *["if a missing"] * 10, *["else", "end"] * 10, "times 1", "end", "gives"]))

    def test_sixty_lines(self):
        text = "\n".join(["takes a", *["a = next a one"] * 58, "gives a"])
        self.assertEqual(Script(PLAIN, text).walks, 58)
        text = "\n".join(["takes a", *["times 1"] * 10, *["a = b"] * 38, *["end"] * 10, "gives a"])
        self.assertEqual(Script(PLAIN, text).text, text)

    def test_a_scene_of_the_same_text_serves(self):
        self.assertEqual(Script(Scene("row one"), "takes\nturn one\ngives").scene, PLAIN)


class WrongScripts(Reading):

    def test_lines_that_have_none_of_the_forms(self):
        for line in BAD_LINES:
            self.check_line(line)

    def test_good_lines_with_spaces_put_in(self):
        for line in [*GOOD_LINES, "if a missing", "times 2", "else", "end"]:
            words = line.split(" ")
            for at in range(len(words) + 1):
                self.check_line(" ".join([*words[:at], "", *words[at:]]))

    def test_good_lines_with_words_lacking_or_doubled(self):
        scene = plain.Scene(MARKED.text)
        checked = 0
        for line in GOOD_LINES:
            words = line.split(" ")
            for at in range(len(words)):
                for changed in [[*words[:at + 1], *words[at:]], [*words[:at], *words[at + 1:]]]:
                    # A second `not`, or a line without its `not`, is right.
                    if plain_texts.line_kind(scene, " ".join(changed)) is None:
                        self.check_line(" ".join(changed))
                        checked += 1
        self.assertGreater(checked, 250)

    def test_rows_and_marks_that_the_scene_lacks(self):
        for line in ["a = next a two", "a = prev a two", "a = first two", "a = last two", "put a behind b two",
                     "put a ahead b two", "swap a b two", "turn two", "sort one by two", "sort two by one",
                     "gather two where it missing", "gather one where it ahead a two", "mark a done", "unmark a done",
                     "mark a one", "a = first one where it has done", "a = first one where it with a",
                     "if a ahead b two", "if a has done", "if a with b"]:
            self.check_line(line, PLAIN)
        self.check_line("if a with b", MARKED)
        self.check_line("a = first one where a with it", MARKED)
        self.assertEqual(Script(FULL, "takes a\nif a with a\nend\nsort one by three\ngives").walks, 0)

    def test_the_first_line(self):
        for line in ["take a", "takes it", "takes row", "takes a it", "takes A", "takes a b c", "takes a b a", "takes a a",
                     "takes  a", " takes a", "takes a ", "takes ", "takes a  b", "takes abcdefghijklm", "takes 1", "",
                     "gives", "gives a", "a = b", "turn one", "if a missing", "end", "row one", "takes a, b", "takes("]:
            self.check(PLAIN, f"{line}\ngives", 1)
            self.check(PLAIN, line, 1)

    def test_the_last_line(self):
        for line in ["give a", "gives it", "gives nothing", "gives a nothing", "gives A", "gives a b c", "gives a a a",
                     "gives  a", " gives", "gives ", "gives a ", "gives abcdefghijklm", "gives a 1", "takes a", "gives("]:
            self.check(PLAIN, f"takes a\n{line}", 2)
            self.check(PLAIN, f"takes a\na = b\n{line}", 3)
            self.check(PLAIN, f"takes a\n{line}\ngives a", 2)

    def test_gives_within_an_open_block(self):
        for opened in ["if a missing", "times 2", "if a missing\nelse", "if a missing\nend\ntimes 1", "times 1\ntimes 1\nend"]:
            lines = f"takes\n{opened}\ngives"
            self.check(PLAIN, lines, len(lines.split("\n")))
            self.check(PLAIN, f"{lines}\nend\ngives", len(lines.split("\n")))

    def test_lines_behind_gives(self):
        for line in ["", " ", "gives", "gives a", "a = b", "takes", "end", "if a missing", "."]:
            self.check(PLAIN, f"takes\ngives\n{line}", 3)
            self.check(PLAIN, f"takes\na = b\ngives a a\n{line}\ngives", 4)

    def test_lines_that_are_lacking(self):
        self.check(PLAIN, "", 1)
        self.check(PLAIN, "takes", 2)
        self.check(PLAIN, "takes a b\na = b", 3)
        self.check(PLAIN, "takes\nif a missing", 3)
        self.check(PLAIN, "takes\nif a missing\nelse", 4)
        self.check(PLAIN, "takes\ntimes 2\na = b", 4)
        self.check(PLAIN, "takes\ntimes 2\nend", 4)

    def test_empty_lines(self):
        self.check(PLAIN, "\n", 1)
        self.check(PLAIN, "\ntakes\ngives", 1)
        self.check(PLAIN, "takes\n", 2)
        self.check(PLAIN, "takes\n\ngives", 2)
        self.check(PLAIN, "takes\nif a missing\n\nend\ngives", 3)

    def test_else_and_end(self):
        self.check(PLAIN, "takes\nelse\ngives", 2)
        self.check(PLAIN, "takes\nend\ngives", 2)
        self.check(PLAIN, "takes\nif a missing\nelse\nelse\nend\ngives", 4)
        self.check(PLAIN, "takes\nif a missing\nelse\na = b\nelse\nend\ngives", 5)
        self.check(PLAIN, "takes\ntimes 2\nelse\nend\ngives", 3)
        self.check(PLAIN, "takes\nif a missing\ntimes 2\nelse\nend\nend\ngives", 4)
        self.check(PLAIN, "takes\nif a missing\nend\nelse\nend\ngives", 4)
        self.check(PLAIN, "takes\nif a missing\nelse\nend\nend\ngives", 5)
        self.check(PLAIN, "takes\ntimes 1\nend\nend\ngives", 4)
        self.check(PLAIN, "takes\ntimes 1\nif a missing\nelse\nend\nelse\nend\ngives", 6)

    def test_the_eleventh_open_block(self):
        for opened in [["if a missing"] * 10, ["times 1"] * 10, ["if a missing", "else"] * 10]:
            for line in ["if a missing", "times 1"]:
                lines = ["takes", *opened, line, *["end"] * 11, "gives"]
                self.check(PLAIN, "\n".join(lines), len(opened) + 2)
        lines = ["takes", *["times 1"] * 10, "end", "times 1", "a = b", "times 1", *["end"] * 11, "gives"]
        self.check(PLAIN, "\n".join(lines), 15)

    def test_line_sixty_one(self):
        self.check(PLAIN, "\n".join(["takes a", *["a = b"] * 59, "gives a"]), 61)
        self.check(PLAIN, "\n".join(["takes a", *["a = b"] * 80, "gives a"]), 61)
        self.check(PLAIN, "\n".join(["takes a", *["a = b"] * 59]), 61)
        self.check(PLAIN, "\n".join(["takes a", *["a = b"] * 60]), 61)
        self.check(PLAIN, "\n".join(["takes a", *["a = b"] * 58, "gives a", "gives a"]), 61)
        self.check(PLAIN, "\n".join(["takes a", *["a = b"] * 57, "gives a", "", "", ""]), 60)
        self.check(PLAIN, "\n".join(["takes a", *["a = b"] * 59, "a = 1"]), 61)
        self.check(PLAIN, "\n".join(["takes a", *["a = b"] * 40, "a = 1", *["a = b"] * 40]), 42)
        self.check(PLAIN, "\n".join(["takes a", "times 2", *["a = b"] * 58]), 61)
        self.check(PLAIN, "\n".join(["takes a", "times 2", *["a = b"] * 58, "end", "gives"]), 61)

    def test_the_first_of_several_wrong_lines(self):
        self.check(PLAIN, "takes a a\na =\ngives it", 1)
        self.check(PLAIN, "takes a\na = b\nturn two\nend\ngives it\ngives", 3)
        self.check(PLAIN, "takes a\nif a missing\nelse\nelse\na", 4)


class SpoiledScripts(unittest.TestCase):
    """The first wrong line against a plain reading of [6] and [7], for texts in which this and that is changed."""

    def test_texts_with_changes(self):
        source = random.Random(6)
        good = wrong = 0
        for text in ["row one", "row one\nrow two\nmark done", FULL.text, "row a\nmark b\nlots"]:
            scene, maker = Scene(text), Maker(source, text)
            for _ in range(600):
                lines = maker.script(source.randrange(3), source.randrange(3), source.randrange(9), 10 ** 9)
                for _ in range(6):
                    want = plain_texts.wrong_line(maker.scene, lines)
                    self.assertEqual(wrong_line(scene, lines), want, lines)
                    good, wrong = good + (want is None), wrong + (want is not None)
                    lines = spoiled(source, lines)
        self.assertGreater(good, 2000)
        self.assertGreater(wrong, 5000)


def wrong_line(scene, text):
    """The line of the error that reading raises, or None."""
    try:
        Script(scene, text)
    except BadScript as error:
        return error.line
    return None


class SameLines(unittest.TestCase):
    """Lines with the same text that stand in more than one place."""

    def test_in_blocks_and_outside(self):
        world = World(MARKED, "row one p q r s\nrow two s r q p\nmark done q s\nmark seen p")
        scene = plain.Scene(MARKED.text)
        block = ["if a has done", "a = next a one", "else", "a = next a two", "end", "times 2", "a = next a one", "end"]
        lines = ["takes a", *block, "a = prev a one", "if a has done", "times 2", *block, "end", "end", *block, "times 2",
                 "if a has done", "a = prev a one", "end", "end", "gives a"]
        script = Script(MARKED, "\n".join(lines))
        self.assertEqual(script.walks, plain.walks(script.text))
        for thing in [*"pqrs", None]:
            run = plain.Run(scene, script.text, plain.read_world(scene, world.text), [thing])
            self.assertEqual(script.run(world, [thing])[0], run.outputs)
            self.assertEqual([line for line, _, _ in script.steps(world, [thing])], [line for line, _, _ in run.steps])

    def test_the_first_wrong_line_behind_them(self):
        for many in range(56):
            lines = ["takes a"] + ["a = next a one"] * many
            for behind, wrong in [(["a = next a"], 1), (["end"], 1), (["a = next a one", "gives a", "a = next a one"], 3), ([], 1),
                                  (["takes a"], 1), (["if a missing", "a = next a one", "gives a"], 3), (["gives a", "gives a"], 2)]:
                with self.assertRaises(BadScript) as caught:
                    Script(PLAIN, "\n".join(lines + behind))
                self.assertEqual(caught.exception.line, many + 1 + wrong)


if __name__ == "__main__":
    unittest.main()
