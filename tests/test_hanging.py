"""[11] and the interface's part seatedtwice/compare.py: on which rows, marks and lots a script hangs."""

import random
import unittest

from seatedtwice.compare import hanging
from seatedtwice.errors import NoRow
from seatedtwice.scenes import Scene
from seatedtwice.scripts import Script
from seatedtwice.worlds import World
from tests import plain
from tests.made import Maker

PLAIN = "row one"
TWO = "row one\nrow two"
MARKED = "row one\nrow two\nmark done"
LOTS = "row one\nlots"
FULL = "row one\nrow two\nrow three\nmark done\nmark seen\nlots"


def same_lots(world):
    """The lots of a plain world as a set of sets, by which two ways to number them are the same."""
    lots = {}
    for thing, lot in world["lots"].items():
        lots.setdefault(lot, set()).add(thing)
    return sorted([sorted(lot) for lot in lots.values()])


class Shown(unittest.TestCase):

    def check_shown(self, scene_text, text, name, told):
        """What is told are two worlds that differ in this alone, and for which the outputs are not the same."""
        scene = plain.Scene(scene_text)
        self.assertIs(type(told), tuple)
        world, other, inputs = told
        self.assertEqual([type(world), type(other), type(inputs)], [World, World, tuple])
        self.assertEqual([world.text, world.scene, other.scene], [world.form(), Scene(scene_text), Scene(scene_text)])
        one, two = plain.read_world(scene, world.text), plain.read_world(scene, other.text)
        self.assertEqual(set(one[scene.rows[0]]), set(two[scene.rows[0]]))
        if scene.has_lots:
            one["lots"], two["lots"] = same_lots(one), same_lots(two)
        self.assertEqual([key for key in one if one[key] != two[key]], [name])
        one, two = plain.read_world(scene, world.text), plain.read_world(scene, other.text)
        self.assertNotEqual(plain.Run(scene, text, one, inputs).outputs, plain.Run(scene, text, two, inputs).outputs)

    def check(self, scene_text, text, names):
        """The script hangs on these names and on no others."""
        scene = plain.Scene(scene_text)
        script = Script(Scene(scene_text), text)
        for name in [*scene.rows, *scene.marks, *["lots"] * scene.has_lots]:
            with self.subTest(text, name=name):
                told = hanging(script, name)
                if name in names.split(" "):
                    self.check_shown(scene_text, text, name, told)
                else:
                    self.assertIs(told, None)


class Hanging(Shown):

    def test_the_example_of_the_interface(self):
        scene = Scene("row one\nrow two")
        plain_one = Script(scene, "takes a\nb = next a one\ngives b")
        sorted_first = Script(scene, "takes a\nsort one by two\nb = next a one\ngives b")
        self.assertEqual([hanging(plain_one, "two"), hanging(sorted_first, "one"), hanging(sorted_first, "two") is None],
                         [None, None, False])

    def test_rows(self):
        self.check(TWO, "takes a\nb = next a one\ngives b", "one")
        self.check(TWO, "takes a\nb = next a two\ngives b", "two")
        self.check(TWO, "takes a\nb = next a one where it ahead a two\ngives b", "one two")
        self.check(TWO, "takes\nc = last two\ngives c", "two")
        self.check(TWO, "takes a b\nif a ahead b two\nc = a\nend\ngives c", "two")
        self.check(TWO, "takes a\nsort one by two\nb = next a one\ngives b", "two")
        self.check(TWO, "takes a\nsort two by one\nb = next a two\ngives b", "one")
        self.check(TWO + "\nrow three", "takes a\nb = next a one where it ahead a three\ngives b", "one three")
        self.check(TWO + "\nrow three", "takes a\nsort one by two\nsort two by three\nb = next a one\ngives b", "two")
        self.check(TWO + "\nrow three", "takes a\nsort one by two\nsort two by three\nb = next a two\ngives b", "three")

    def test_marks(self):
        self.check(MARKED, "takes a\nif a has done\nb = a\nend\ngives b", "done")
        self.check(MARKED, "takes\na = first one where it has done\ngives a", "one done")
        self.check(MARKED, "takes a\nmark a done\nif a has done\nb = a\nend\ngives b", "")
        self.check(MARKED, "takes a\nunmark a done\nb = last one where it has done\ngives b", "one done")
        self.check(MARKED, "takes\ngather two where it has done\na = first two\ngives a", "two done")
        self.check("row one\nmark done\nmark seen", "takes a\nif a has done\nmark a seen\nend\nif a has seen\nb = a\nend\n"
                   "gives b", "done seen")
        self.check("row one\nmark done\nmark seen", "takes a\nunmark a seen\nif a has done\nmark a seen\nend\nif a has seen\n"
                   "b = a\nend\ngives b", "done")

    def test_lots(self):
        self.check(LOTS, "takes a\nb = next a one where it with a\ngives b", "one lots")
        self.check(LOTS, "takes a b\nif a with b\nc = a\nend\ngives c", "lots")
        self.check(LOTS, "takes a\nif a with a\nc = a\nend\ngives c", "")
        self.check(LOTS, "takes a\ngather one where it with a\nb = first one\ngives b", "one lots")

    def test_what_is_named_but_plays_no_part(self):
        self.check(TWO, "takes a\nb = next a two\ngives a", "")
        self.check(TWO, "takes a b\nif a ahead b one or b ahead a one or a is b or a missing or b missing\nc = a\nend\ngives c", "")
        self.check(TWO, "takes a\nturn one\nsort one by two\nturn two\ngives a", "")
        self.check(MARKED, "takes a\nmark a done\nb = next a one\nunmark b done\ngives b", "one")
        self.check(PLAIN, "takes a\nb = next a one\nc = prev b one\nif b missing\nc = a\nend\nif a missing\nc = nothing\nend\n"
                   "gives c", "")
        self.check(LOTS, "takes a\nb = next a one where it with a or not it with a\ngives b", "one")

    def test_without_inputs_or_outputs(self):
        self.check(MARKED, "takes a b\nc = next a one where it has done\nswap a b two\ngives", "")
        self.check(MARKED, "takes\ngives a a", "")
        self.check(MARKED, "takes\nc = first one\nd = last two\ngives d c", "one two")

    def test_the_world_behind_plays_no_part(self):
        self.check(MARKED, "takes a\nturn one\nmark a done\nsort one by two\ngives a", "")

    def test_registers_with_names_of_rows_and_marks(self):
        self.check(MARKED, "takes one\ndone = next one two\ntwo = one\ngives done", "two")
        self.check(MARKED, "takes two\ndone = two\ngives done", "")

    def test_the_whole_scene(self):
        self.check(FULL, "takes a\nb = next a one where it ahead a two or it ahead a three and it has done or it has seen "
                   "and it with a\ngives b", "one two three done seen lots")
        self.check(FULL, "takes a\nb = next a two where it has seen\ngives b", "two seen")

    def test_names_that_are_none(self):
        for scene, names in [(TWO, ["done", "lots", "three", "", "a", "row", "One", "one two", "one\n"]),
                             (FULL, ["four", "lot", "with", "a", "", "mark", "LOTS", " lots"]),
                             (LOTS, ["two", "lots ", "lot"]), (PLAIN, ["lots"])]:
            script = Script(Scene(scene), "takes a\nb = next a one\ngives b")
            for name in names:
                with self.subTest(name, scene=scene):
                    with self.assertRaises(NoRow) as caught:
                        hanging(script, name)
                    self.assertEqual(caught.exception.name, name)
        many = Script(Scene(FULL), "\n".join(["takes a b", *["c = next a one"] * 58, "gives c"]))
        self.assertRaises(NoRow, hanging, many, "four")

    def test_lots_with_and_without_a_part_that_asks_for_them(self):
        self.assertIs(hanging(Script(Scene(LOTS), "takes a\nb = next a one\ngives b"), "lots"), None)
        self.assertRaises(NoRow, hanging, Script(Scene(TWO), "takes a\ngives a"), "lots")

    def test_up_to_the_bounds(self):
        """The walks count twice, and the scene as if it had a row (a mark, lots) more."""
        self.check(PLAIN, "takes a\nb = next a one\nturn one\nd = prev a one\nif not b is d and not ( b missing and d missing )\n"
                   "e = a\nend\ngives e", "")
        self.check(TWO, "takes a b\nc = next a one where it ahead b two or b missing\ngives c", "one two")
        text = "b = next a one where it ahead a two and it ahead a three and it has done and not it has seen and it with a"
        self.check(FULL, f"takes a\n{text}\ngives b", "one two three done seen lots")
        whole = text.replace("it has done", "( it has done or not it has done )")
        self.assertIs(hanging(Script(Scene(FULL), f"takes a\n{whole}\ngives b"), "done"), None)


class AgainstAllWorlds(Shown):
    """Scripts with all pairs of small worlds and all inputs tried."""

    # For each text of a scene, how many things can matter at most in these tests.
    BOUNDS = {PLAIN: 4, TWO: 3, "row one\nmark done": 3, LOTS: 3, MARKED: 3, TWO + "\nlots": 3,
              TWO + "\nrow three": 2, "row one\nmark done\nmark seen\nlots": 2, FULL: 1}

    def test_all_names(self):
        source = random.Random(31)
        shown = {}
        for scene_text, most in self.BOUNDS.items():
            maker = Maker(source, scene_text)
            for _ in range(16):
                takes = min(source.choice([0, 1, 1, 2]), most)
                text = maker.script(takes, source.choice([1, 1, 2]), source.randrange(1, 6), (most - takes) // 2)
                bound = takes + 2 * plain.walks(text)
                for name in [*maker.scene.rows, *maker.scene.marks, *["lots"] * maker.scene.has_lots]:
                    many = plain.fewest(maker.scene, bound, takes, lambda world, inputs: plain.hangs(
                        maker.scene, text, name, world, inputs))
                    told = hanging(Script(Scene(scene_text), text), name)
                    if many is None:
                        self.assertIs(told, None, (text, name))
                    else:
                        self.check_shown(scene_text, text, name, told)
                        self.assertEqual(len(told[0]), many)
                    shown[many] = shown.get(many, 0) + 1
        self.assertGreater(min(shown[many] for many in (None, 2)), 15)


if __name__ == "__main__":
    unittest.main()
