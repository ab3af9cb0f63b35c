"""The interface's part seatedtwice/scripts.py: `after`, one script behind another one."""

import itertools
import random
import unittest

from seatedtwice.compare import alike, leave_alike
from seatedtwice.errors import BadInputs, OtherScene, Unlike
from seatedtwice.scenes import Scene
from seatedtwice.scripts import Script
from seatedtwice.worlds import World
from tests.made import Maker

PLAIN = Scene("row one")
SCENE = Scene("row one\nrow two\nmark done\nlots")
WORLD = World(SCENE, "row one p q r s\nrow two s q p r\nmark done q\nlot p r\nlot q\nlot s")


class After(unittest.TestCase):

    def check(self, first, then, world, inputs):
        """The joined script does what the two do one behind the other."""
        joined = then.after(first)
        outputs, behind = first.run(world, inputs)
        visited = first.visited(world, inputs)
        visited += [thing for thing in then.visited(behind, list(outputs)) if thing not in visited]
        self.assertEqual(joined.run(world, inputs), then.run(behind, list(outputs)), (first.text, then.text))
        self.assertEqual(joined.visited(world, inputs), visited)
        self.assertEqual(joined.walks, first.walks + then.walks)
        self.assertEqual([len(joined.takes), len(joined.gives)], [len(first.takes), len(then.gives)])
        last = list(joined.steps(world, inputs))[-1]
        self.assertEqual((tuple(last[1].get(name) for name in joined.gives), last[2]), joined.run(world, inputs))
        return joined

    def test_a_walk_behind_a_walk(self):
        step = Script(SCENE, "takes a\nb = next a one\ngives b")
        for name in ["p", "q", "r", "s", None]:
            self.check(step, step, WORLD, [name])
        joined = step.after(step)
        self.assertEqual([joined.run(WORLD, [name])[0] for name in ["p", "q", "r", None]], [("r",), ("s",), (None,), (None,)])
        self.assertEqual([joined.scene, joined.walks, len(joined.takes), len(joined.gives)], [SCENE, 2, 1, 1])

    def test_it_is_a_script(self):
        step = Script(SCENE, "takes a\nb = next a one\ngives b")
        joined = step.after(step)
        self.assertIsInstance(joined, Script)
        self.assertEqual([type(joined.takes), type(joined.gives), type(joined.text), type(joined.walks)],
                         [tuple, tuple, str, int])
        self.assertEqual(Script(SCENE, joined.text).text, joined.text)
        self.assertTrue(alike(Script(SCENE, joined.text), joined))

    def test_the_second_one_does_its_walks_in_the_world_that_the_first_one_leaves(self):
        turn = Script(SCENE, "takes a\nturn one\ngives a")
        step = Script(SCENE, "takes a\nb = next a one\ngives b")
        self.assertEqual(self.check(turn, step, WORLD, ["r"]).run(WORLD, ["r"])[0], ("q",))
        self.assertEqual(self.check(step, turn, WORLD, ["r"]).run(WORLD, ["r"])[0], ("s",))

    def test_names_in_common(self):
        first = Script(SCENE, "takes a b\nc = next a one\nd = first two\none = a\ngives b c")
        pairs = [["a", "b"], ["b", "a"], ["c", "d"], ["d", "c"], ["b", "c"], ["c", "b"], ["one", "d"], ["x", "y"]]
        for takes, gives in itertools.product(pairs, repeat=2):
            lines = [" ".join(["takes", *takes]), "if one missing", "c = d", "end", f"d = next {takes[0]} one", "done = a",
                     " ".join(["gives", *gives])]
            for inputs in [["p", "q"], ["q", "p"], [None, "r"], ["r", "r"]]:
                self.check(first, Script(SCENE, "\n".join(lines)), WORLD, inputs)

    def test_outputs_that_take_the_places_of_each_other(self):
        """One script gives what the other one takes under the same names, in another order."""
        for gives in itertools.product("abcd", repeat=2):
            for takes in itertools.permutations("abcd", 2):
                first = Script(SCENE, f"takes a b\nc = next a two\nd = prev b one\ngives {' '.join(gives)}")
                then = Script(SCENE, f"takes {' '.join(takes)}\nif a missing\nif b missing\nturn one\nend\nend\n"
                                     f"mark c done\nunmark d done\ngives {' '.join(takes)}")
                for inputs in itertools.product([None, "p", "q", "s"], repeat=2):
                    self.check(first, then, WORLD, list(inputs))

    def test_long_ones(self):
        """Lines that stand in both, many times, and registers that only the second one has."""
        scene = Scene("row marks\nmark q\nmark rows\nlots")
        world = World(scene, "row marks p t s\nmark q t\nmark rows\nlot p t\nlot s")
        for many in range(54, 59):
            script = Script(scene, "\n".join(["takes", *["turn marks"] * many, "gives"]))
            self.check(script, script, world, [])
            lines = ["a = first marks", "b = next a marks where it has q", "mark b rows"] * 18
            other = Script(scene, "\n".join(["takes", *lines, "c = a", "a = nothing", "gives b c"]))
            then = Script(scene, "\n".join(["takes a c", *lines, "if c missing", "d = b", "end", "gives c d"]))
            self.check(script, other, world, [])
            self.check(other, then, world, [])

    def test_registers_of_the_first_one_are_lost(self):
        first = Script(SCENE, "takes a\nb = next a one\nc = b\ngives a")
        then = Script(SCENE, "takes a\nd = nothing\nif b missing\nd = a\nend\ngives d c")
        self.assertEqual(self.check(first, then, WORLD, ["p"]).run(WORLD, ["p"])[0], ("p", None))

    def test_the_same_output_twice(self):
        first = Script(SCENE, "takes a\ngives a a")
        then = Script(SCENE, "takes x y\nx = next x one\ngives x y")
        self.assertEqual(self.check(first, then, WORLD, ["p"]).run(WORLD, ["p"])[0], ("q", "p"))

    def test_outputs_and_inputs_by_number(self):
        first = Script(SCENE, "takes a b\ngives b a")
        then = Script(SCENE, "takes b a\ngives b a")
        self.assertEqual(self.check(first, then, WORLD, ["p", "q"]).run(WORLD, ["p", "q"])[0], ("q", "p"))
        self.check(Script(SCENE, "takes a b\ngives"), Script(SCENE, "takes\nc = first one\ngives c c"), WORLD, ["p", None])
        self.check(Script(SCENE, "takes\ngives new"), Script(SCENE, "takes c\nd = first one\ngives d"), WORLD, [])
        self.check(Script(SCENE, "takes\nturn one\ngives"), Script(SCENE, "takes\nturn two\ngives"), WORLD, [])

    def test_names_of_rows_and_marks_stay(self):
        first = Script(SCENE, "takes one\ntwo = next one one where it ahead one two or it has done\nmark two done\n"
                              "put one behind two two\nsort one by two\ngives two")
        then = Script(SCENE, "takes done\none = prev done two\nswap one done one\ngather two where it has done or it is one\n"
                             "unmark done done\nturn one\ngives one")
        for name in ["p", "q", "r", "s", None]:
            self.check(first, then, WORLD, [name])

    def test_blocks(self):
        first = Script(SCENE, "takes a\ntimes 3\nif a has done\na = next a one\nelse\na = prev a one\nend\nend\ngives a")
        then = Script(SCENE, "takes b\ntimes 2\ntimes 2\nif b missing\nb = last two\nelse\nb = prev b two\nend\nend\nend\n"
                             "gives b")
        for name in ["p", "q", "r", "s", None]:
            self.check(first, then, WORLD, [name])

    def test_joined_again(self):
        step = Script(SCENE, "takes a\nb = next a one\nif b missing\nb = first one\nturn two\nend\ngives b")
        joined = step
        for many in range(2, 9):
            joined = self.check(joined, step, WORLD, ["p"])
            self.assertEqual([joined.walks, joined.run(WORLD, ["p"])[0]], [2 * many, ("pqrs"[many % 4],)])
        want = ("q",), World(SCENE, WORLD.text.replace("two s q p r", "two r p q s"))
        twice = step.after(step)
        for four in [twice.after(twice), step.after(step.after(twice)), step.after(twice.after(step))]:
            self.assertEqual([four.walks, four.run(WORLD, ["q"])], [8, want])

    def test_more_than_sixty_lines(self):
        lines = "\n".join(["a = next a one", "turn one"] * 29)
        script = Script(SCENE, f"takes a\n{lines}\ngives a")
        joined = self.check(script, script, WORLD, ["p"])
        self.assertEqual(joined.walks, 58)
        for _ in range(3):
            joined = self.check(joined, joined, WORLD, ["q"])
        self.assertEqual(joined.walks, 58 * 8)

    def test_ten_blocks_and_eight_parts(self):
        lines = "\n".join(["times 1"] * 9 + ["if " + " or ".join(["not a missing"] * 8), "a = next a one"] + ["end"] * 10)
        script = Script(SCENE, f"takes a\n{lines}\ngives a")
        self.assertEqual(self.check(script, script, WORLD, ["p"]).run(WORLD, ["p"])[0], ("r",))

    def test_many_registers(self):
        names = [f"{one}{two}" for one, two in itertools.product("bcdefgh", "zxwvujk")]
        lines = "\n".join(f"{name} = {before}" for before, name in zip(["a", *names], names))
        script = Script(SCENE, f"takes a\n{lines}\n{names[0]} = next {names[-1]} one\ngives {names[0]}")
        self.assertEqual(self.check(script, script, WORLD, ["p"]).run(WORLD, ["p"])[0], ("r",))

    def test_unlike(self):
        texts = ["takes\ngives", "takes a\ngives a", "takes a b\ngives a b", "takes a\ngives a a", "takes a b\ngives"]
        for one, two in itertools.product(texts, repeat=2):
            first, then = Script(SCENE, one), Script(SCENE, two)
            if len(first.gives) == len(then.takes):
                self.assertEqual(len(then.after(first).takes), len(first.takes))
            else:
                self.assertRaises(Unlike, then.after, first)
                self.assertRaises(Unlike, then.after, Script(PLAIN, one))

    def test_another_scene(self):
        self.assertRaises(OtherScene, Script(SCENE, "takes a\ngives a").after, Script(PLAIN, "takes a\ngives a"))
        joined = Script(SCENE, "takes a\ngives a").after(Script(Scene(SCENE.text), "takes a\ngives a"))
        self.assertEqual(joined.run(WORLD, ["p"]), (("p",), WORLD))

    def test_errors_of_runs(self):
        step = Script(SCENE, "takes a\nb = next a one\ngives b")
        joined = step.after(step)
        for call in [joined.run, joined.visited, lambda *told: next(joined.steps(*told))]:
            for inputs, index in [([], 0), (["x"], 0), (["p", "q"], 1)]:
                with self.assertRaises(BadInputs) as caught:
                    call(WORLD, inputs)
                self.assertEqual(caught.exception.index, index)
            self.assertRaises(OtherScene, call, World(PLAIN, "row one p"), ["p"])

    def test_the_two_scripts_stay(self):
        first = Script(SCENE, "takes a\nb = next a one\ngives b")
        then = Script(SCENE, "takes b\na = prev b two\ngives a")
        then.after(first)
        self.assertEqual([first.text, then.text], ["takes a\nb = next a one\ngives b", "takes b\na = prev b two\ngives a"])
        self.assertEqual([first.takes, then.gives, first.walks, then.walks], [("a",), ("a",), 1, 1])
        self.assertEqual([first.run(WORLD, ["p"])[0], then.run(WORLD, ["q"])[0]], [("q",), ("s",)])

    def test_joined_scripts_are_compared_like_others(self):
        step, back = Script(PLAIN, "takes a\nb = next a one\ngives b"), Script(PLAIN, "takes a\nb = prev a one\ngives b")
        self.assertTrue(alike(back.after(step), Script(PLAIN, "takes x\ny = next x one\nz = prev y one\ngives z")))
        self.assertFalse(alike(back.after(step), step.after(back)))
        turn = Script(PLAIN, "takes a\nturn one\ngives a")
        self.assertTrue(alike(step, turn.after(back).after(turn)))
        self.assertTrue(leave_alike(step, turn.after(back).after(turn)))

    def test_any_two_scripts(self):
        source = random.Random(10)
        maker = Maker(source, SCENE.text)
        for _ in range(300):
            between = source.randrange(3)
            first = Script(SCENE, maker.script(source.randrange(3), between, source.randrange(7), 60))
            then = Script(SCENE, maker.script(between, source.randrange(3), source.randrange(7), 60))
            world = World(SCENE, maker.world(5))
            self.check(first, then, world, maker.inputs(world.text, len(first.takes)))


if __name__ == "__main__":
    unittest.main()
