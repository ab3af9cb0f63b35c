"""[4] and the interface's part seatedtwice/worlds.py: reading worlds, and what they tell."""

import itertools
import unittest

from seatedtwice.errors import BadWorld, NoLots, NoMark, NoRow
from seatedtwice.scenes import Scene
from seatedtwice.worlds import World

PLAIN = Scene("row one")
TWO = Scene("row one\nrow two")
MARKED = Scene("row one\nrow two\nmark done")
LOTS = Scene("row one\nlots")
FULL = Scene("row one\nrow two\nrow three\nmark done\nmark seen\nlots")
FULL_TEXT = """row one p q r s
row two s r q p
row three q p s r
mark done p s
mark seen q
lot p r
lot q
lot s"""


def changed(text, line, new):
    """The text with a line, counted from 1, changed to other lines."""
    lines = text.split("\n")
    lines[line - 1:line] = new
    return "\n".join(lines)


class ReadWorlds(unittest.TestCase):

    def test_the_example_of_the_interface(self):
        scene = Scene("row one\nrow two\nmark done")
        world = World(scene, "row one p q r\nrow two r p q\nmark done q")
        told = [world["two"], world.marked("done"), len(world), world.form()]
        self.assertEqual(told, [["r", "p", "q"], ["q"], 3, "row one a b c\nrow two c a b\nmark done b"])

    def test_worlds_without_things(self):
        for scene, text in [(PLAIN, "row one"), (TWO, "row one\nrow two"), (MARKED, "row one\nrow two\nmark done"),
                            (LOTS, "row one"),
                            (FULL, "row one\nrow two\nrow three\nmark done\nmark seen")]:
            with self.subTest(text):
                world = World(scene, text)
                self.assertEqual(world.text, text)
                self.assertEqual(len(world), 0)
                self.assertEqual([world[row] for row in scene.rows], [[] for _ in scene.rows])
                self.assertEqual([world.marked(mark) for mark in scene.marks], [[] for _ in scene.marks])
                self.assertEqual(world.form(), text)
                self.assertFalse("p" in world)
        self.assertEqual(World(LOTS, "row one").lots(), [])

    def test_a_world_with_all_kinds_of_lines(self):
        world = World(FULL, FULL_TEXT)
        self.assertEqual(world.text, FULL_TEXT)
        self.assertEqual(world["one"], ["p", "q", "r", "s"])
        self.assertEqual(world["two"], ["s", "r", "q", "p"])
        self.assertEqual(world["three"], ["q", "p", "s", "r"])
        self.assertEqual(world.marked("done"), ["p", "s"])
        self.assertEqual(world.marked("seen"), ["q"])
        self.assertEqual(world.lots(), [["p", "r"], ["q"], ["s"]])
        self.assertEqual(len(world), 4)
        self.assertEqual(world.scene, FULL)

    def test_one_row_without_marks(self):
        world = World(PLAIN, "row one q p")
        self.assertEqual([world["one"], world.text, len(world)], [["q", "p"], "row one q p", 2])

    def test_kinds_of_what_is_told(self):
        world = World(FULL, FULL_TEXT)
        self.assertIs(type(world.text), str)
        for told in [world["one"], world.marked("done"), world.lots(), *world.lots()]:
            self.assertIs(type(told), list)

    def test_the_first_row_gives_the_order_of_marks_and_lots(self):
        text = "row one s r q p\nrow two p q r s\nrow three p q r s\nmark done p s q\nmark seen\nlot q r\nlot p s"
        world = World(FULL, text)
        self.assertEqual(world.marked("done"), ["s", "q", "p"])
        self.assertEqual(world.lots(), [["s", "p"], ["r", "q"]])
        self.assertEqual(world.text.split("\n")[3:], ["mark done s q p", "mark seen", "lot s p", "lot r q"])

    def test_names_and_lots_in_any_order(self):
        heads = FULL_TEXT.split("\n")[:3]
        world = World(FULL, "row one p q r s\nrow two s r q p\nrow three q p s r\nmark done p q s\nmark seen\n"
                            "lot p r s\nlot q")
        for names in itertools.permutations("pqs"):
            for lots in itertools.permutations([["p", "r", "s"], ["q"]]):
                for first in itertools.permutations(["p", "r", "s"]):
                    lines = [["lot", *(first if len(lot) == 3 else lot)] for lot in lots]
                    text = "\n".join([*heads, "mark done " + " ".join(names), "mark seen",
                                      *[" ".join(line) for line in lines]])
                    read = World(FULL, text)
                    self.assertEqual(read.text, world.text)
                    self.assertEqual(read, world)
                    self.assertEqual(read.marked("done"), ["p", "q", "s"])
                    self.assertEqual(read.lots(), [["p", "r", "s"], ["q"]])

    def test_each_partition_in_each_order(self):
        for parts in (["abc"], ["ab", "c"], ["ac", "b"], ["bc", "a"], ["a", "b", "c"]):
            told = sorted([sorted(part) for part in parts])
            for order in itertools.permutations(parts):
                text = "\n".join(["row one a b c", *["lot " + " ".join(reversed(part)) for part in order]])
                self.assertEqual(World(LOTS, text).lots(), told)

    def test_things_with_names_of_rows_and_marks(self):
        world = World(MARKED, "row one one two done\nrow two done two one\nmark done done one")
        self.assertEqual([world["one"], world.marked("done")], [["one", "two", "done"], ["one", "done"]])
        self.assertIn("two", world)

    def test_names_at_the_edges_of_length(self):
        names = ["a", "abcdefghijkl", "zzzzzzzzzzzz"]
        self.assertEqual(World(PLAIN, "row one " + " ".join(names))["one"], names)

    def test_many_things(self):
        names = ["q" + "abcdefghij"[k // 10 % 10] + "abcdefghij"[k % 10] for k in range(100)]
        world = World(TWO, f"row one {' '.join(names)}\nrow two {' '.join(reversed(names))}")
        self.assertEqual([len(world), world["one"], world["two"]], [100, names, names[::-1]])

    def test_written_form_reads_as_itself(self):
        world = World(FULL, FULL_TEXT)
        self.assertEqual(World(FULL, world.text), world)

    def test_a_scene_of_the_same_text_serves(self):
        self.assertEqual(World(Scene(FULL.text), FULL_TEXT), World(FULL, FULL_TEXT))


class WrongWorlds(unittest.TestCase):

    def check(self, scene, text, line):
        with self.subTest(text, scene=scene.text):
            with self.assertRaises(BadWorld) as caught:
                World(scene, text)
            self.assertEqual(caught.exception.line, line)

    def check_changed(self, line, *new):
        """The full text with a line changed to others is wrong at this line."""
        self.check(FULL, changed(FULL_TEXT, line, new), line)

    def test_lines_are_lacking(self):
        lines = FULL_TEXT.split("\n")
        for many in range(len(lines)):
            self.check(FULL, "\n".join(lines[:many]), many + 1)
        self.check(PLAIN, "", 1)
        self.check(TWO, "row one p", 2)
        self.check(MARKED, "row one p\nrow two p", 3)
        self.check(MARKED, "row one\nrow two", 3)

    def test_lot_lines_lack_a_thing(self):
        self.check(LOTS, "row one p", 2)
        self.check(LOTS, "row one p q\nlot q", 3)
        self.check(LOTS, "row one p q r\nlot q\nlot p", 4)
        self.check(LOTS, "row one p q r\nlot q p", 3)

    def test_other_first_words(self):
        for line in ["", " ", "rows one p q r s", "row", "row two p q r s", "one p q r s", "mark one p q r s", "p q r s",
                     "lot p q r s", "Row one p q r s", "row One p q r s", "row three p q r s"]:
            self.check_changed(1, line)
        for line in ["", "row one p q r s", "row three q p s r", "mark done p s", "lot p q r s", "row"]:
            self.check_changed(2, line)
        for line in ["", "mark seen q", "mark", "mark more p", "row done p s", "unmark done p", "lot p s", "row one p"]:
            self.check_changed(4, line)
        for line in ["", "mark done p s", "mark", "lot q"]:
            self.check_changed(5, line)
        for line in ["", "lots p r", "p r", "mark done p r", "row one p r", "Lot p r", "lotp r"]:
            self.check_changed(6, line)

    def test_lines_left_out_or_in_a_wrong_order(self):
        lines = FULL_TEXT.split("\n")
        for at in range(5):
            self.check(FULL, "\n".join(lines[:at] + lines[at + 1:]), at + 1)
        for at in range(4):
            self.check(FULL, "\n".join([*lines[:at], lines[at + 1], lines[at], *lines[at + 2:]]), at + 1)

    def test_names_that_are_none(self):
        for name in ["row", "mark", "lot", "it", "nothing", "some", "abcdefghijklm", "P", "p1", "p-", "(", "\t", "\xe9"]:
            self.check(PLAIN, f"row one {name}", 1)
            self.check(PLAIN, f"row one p {name} q", 1)
            self.check(TWO, f"row one p {name}\nrow two p {name}", 1)

    def test_unknown_names(self):
        self.check(TWO, "row one p q\nrow two p r", 2)
        self.check(TWO, "row one p q\nrow two p q r", 2)
        self.check(TWO, "row one\nrow two p", 2)
        self.check_changed(3, "row three q p s x")
        self.check_changed(4, "mark done x")
        self.check_changed(4, "mark done p x s")
        self.check_changed(5, "mark seen row")
        self.check_changed(6, "lot p r x")
        self.check_changed(8, "lot done")

    def test_doubled_names(self):
        self.check(PLAIN, "row one p p", 1)
        self.check(PLAIN, "row one p q r p", 1)
        self.check(TWO, "row one p q\nrow two p p", 2)
        self.check(TWO, "row one p q\nrow two p q p", 2)
        self.check_changed(3, "row three q p s r q")
        self.check_changed(4, "mark done p p")
        self.check_changed(5, "mark seen q p q")
        self.check_changed(6, "lot p p r")
        self.check_changed(7, "lot q q")

    def test_row_lines_that_lack_a_thing(self):
        self.check(TWO, "row one p q\nrow two p", 2)
        self.check(TWO, "row one p q\nrow two", 2)
        self.check_changed(2, "row two s r q")
        self.check_changed(3, "row three")

    def test_lot_lines_without_names(self):
        self.check(LOTS, "row one\nlot", 2)
        self.check(LOTS, "row one p\nlot", 2)
        self.check(LOTS, "row one p\nlot p\nlot", 3)
        self.check_changed(6, "lot", "lot p r")
        self.check_changed(7, "lot", "lot q")

    def test_lot_lines_with_names_of_earlier_ones(self):
        self.check(LOTS, "row one p q\nlot p\nlot p q", 3)
        self.check(LOTS, "row one p q\nlot p q\nlot q", 3)
        self.check_changed(7, "lot q r")
        self.check_changed(8, "lot s q")
        self.check(FULL, FULL_TEXT + "\nlot p", 9)

    def test_what_stands_behind_the_last_line(self):
        for scene, text in [(PLAIN, "row one p"), (TWO, "row one p\nrow two p"),
                            (MARKED, "row one p\nrow two p\nmark done p"), (LOTS, "row one p\nlot p"),
                            (LOTS, "row one"), (FULL, FULL_TEXT)]:
            for line in ["", " ", "p", "lot", "lot p", "lots", "row one p", "row two p", "mark done p", "row more p"]:
                if scene == LOTS and line == "lot p" and text == "row one p":
                    continue
                self.check(scene, f"{text}\n{line}", len(text.split("\n")) + 1)
        self.check(PLAIN, "row one p\nlot p", 2)
        self.check(MARKED, "row one\nrow two\nmark done\nmark seen", 4)

    def test_spaces(self):
        for line in ["row  one p q r s", " row one p q r s", "row one p q r s ", "row one  p q r s", "row one p q  r s",
                     "row one "]:
            self.check_changed(1, line)
            self.check(PLAIN, line, 1)
        for line in ["row two s r q p ", " row two s r q p", "row two s  r q p", "row  two s r q p"]:
            self.check_changed(2, line)
        for line in ["mark done ", "mark  done", " mark done", "mark done p  s", "mark done p s "]:
            self.check_changed(4, line)
        for line in ["lot ", " lot p r", "lot p r ", "lot  p r", "lot p  r"]:
            self.check_changed(6, line)

    def test_the_first_of_several_wrong_lines(self):
        self.check(FULL, "row one p p\nrow two\nmark\nlot", 1)
        self.check(FULL, "row one p q\nrow two q p\nrow three q\nmark done x\nmark seen", 3)
        self.check(FULL, "row one p q\nrow two q p\nrow three q p\nmark done x\nmark seen y", 4)
        self.check(FULL, "row one p q\nrow two q p\nrow three q p\nmark done\nmark seen y\nlot\nlot", 5)
        self.check(FULL, "row one p q\nrow two q p\nrow three q p\nmark done\nmark seen\nlot q\nlot", 7)
        self.check(LOTS, "row one p q\nlot x\nlot p", 2)
        self.check(TWO, "row one p\nrow two q\nlot p", 2)

    def test_wrong_before_lacking(self):
        self.check(FULL, "row one P", 1)
        self.check(FULL, "row one p\nrow two q", 2)
        self.check(LOTS, "row one p q\nlot q\nlot q", 3)


class AskedWorlds(unittest.TestCase):

    def test_rows_that_are_none(self):
        world = World(FULL, FULL_TEXT)
        for name in ["four", "done", "p", "", "row", "lots", "One", "one "]:
            with self.subTest(name):
                with self.assertRaises(NoRow) as caught:
                    world[name]
                self.assertEqual(caught.exception.name, name)

    def test_marks_that_are_none(self):
        for world in [World(FULL, FULL_TEXT), World(PLAIN, "row one p")]:
            for name in ["more", "one", "p", "", "mark", "lots", "Done", " done"]:
                with self.subTest(name):
                    with self.assertRaises(NoMark) as caught:
                        world.marked(name)
                    self.assertEqual(caught.exception.name, name)

    def test_no_lots(self):
        for scene, text in [(PLAIN, "row one p"), (PLAIN, "row one"), (MARKED, "row one\nrow two\nmark done")]:
            with self.assertRaises(NoLots):
                World(scene, text).lots()

    def test_in(self):
        world = World(FULL, FULL_TEXT)
        for name in ["p", "q", "r", "s"]:
            self.assertIs(name in world, True)
        for name in ["x", "", "one", "done", "pq", "p q", "P", "row", "lot"]:
            self.assertIs(name in world, False)
            self.assertIs(name not in world, True)

    def test_len(self):
        for many in range(27):
            self.assertEqual(len(World(PLAIN, " ".join(["row", "one", *"abcdefghijklmnopqrstuvwxyz"[:many]]))), many)

    def test_a_world_is_not_iterated_over(self):
        with self.assertRaises(TypeError):
            list(World(PLAIN, "row one p"))


class ToldListsAreNew(unittest.TestCase):

    def test_callers_may_change_what_is_told(self):
        world = World(FULL, FULL_TEXT)
        for told in [world["one"], world["three"], world.marked("done"), world.marked("seen"), world.lots()]:
            told.reverse()
            told.append("x")
            del told[0]
        for lot in world.lots():
            lot.append("x")
        self.assertEqual(world.text, FULL_TEXT)
        self.assertEqual([world["one"], world["two"]], [["p", "q", "r", "s"], ["s", "r", "q", "p"]])
        self.assertEqual(world["three"], ["q", "p", "s", "r"])
        self.assertEqual([world.marked("done"), world.marked("seen")], [["p", "s"], ["q"]])
        self.assertEqual(world.lots(), [["p", "r"], ["q"], ["s"]])
        self.assertEqual([world.form(), world.cut(["p", "q", "r", "s"]).text], [FORM_OF_FULL, FULL_TEXT])

    def test_rows_told_after_a_change_of_the_first_one(self):
        world = World(MARKED, "row one p q\nrow two q p\nmark done p")
        world["one"].clear()
        world.marked("done").clear()
        self.assertEqual([world["one"], world.marked("done"), len(world)], [["p", "q"], ["p"], 2])
        self.assertIn("p", world)

    def test_an_error_changes_nothing(self):
        world = World(FULL, FULL_TEXT)
        for call in [lambda: world["more"], lambda: world.marked("more"), lambda: world.cut(["p", "x"])]:
            self.assertRaises(ValueError, call)
        self.assertEqual([world.text, world.form()], [FULL_TEXT, FORM_OF_FULL])


FORM_OF_FULL = """row one a b c d
row two d c b a
row three b a d c
mark done a d
mark seen b
lot a c
lot b
lot d"""


class EqualWorlds(unittest.TestCase):

    def test_equal_if_scenes_and_written_forms_are(self):
        texts = ["row one\nrow two\nmark done", "row one p\nrow two p\nmark done", "row one p\nrow two p\nmark done p",
                 "row one q\nrow two q\nmark done q", "row one p q\nrow two p q\nmark done",
                 "row one p q\nrow two q p\nmark done", "row one q p\nrow two q p\nmark done",
                 "row one p q\nrow two q p\nmark done p", "row one p q\nrow two q p\nmark done p q"]
        for text, other in itertools.product(texts, texts):
            self.assertIs(World(MARKED, text) == World(MARKED, other), text == other)
            self.assertIs(World(MARKED, text) != World(MARKED, other), text != other)

    def test_another_order_in_the_text_plays_no_part(self):
        self.assertEqual(World(MARKED, "row one p q\nrow two q p\nmark done p q"),
                         World(MARKED, "row one p q\nrow two q p\nmark done q p"))
        self.assertEqual(World(LOTS, "row one p q r\nlot r q\nlot p"), World(LOTS, "row one p q r\nlot p\nlot q r"))
        self.assertNotEqual(World(LOTS, "row one p q r\nlot r q\nlot p"), World(LOTS, "row one p q r\nlot r\nlot q p"))

    def test_over_two_scenes(self):
        self.assertFalse(World(PLAIN, "row one") == World(LOTS, "row one"))
        self.assertTrue(World(PLAIN, "row one") != World(LOTS, "row one"))
        self.assertFalse(World(Scene("row one"), "row one p") == World(Scene("row two"), "row two p"))
        self.assertTrue(World(Scene("row one"), "row one p") == World(Scene("row one"), "row one p"))

    def test_no_world_is_equal_to_other_objects(self):
        world = World(PLAIN, "row one p")
        for other in [world.text, None, PLAIN, ["p"], 1]:
            self.assertFalse(world == other)
            self.assertTrue(world != other)


if __name__ == "__main__":
    unittest.main()
