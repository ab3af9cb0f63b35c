"""The interface's part seatedtwice/scripts.py: `steps`, a generator of what holds behind the lines of a run."""

import itertools
import random
import types
import unittest

from seatedtwice.errors import BadInputs, OtherScene
from seatedtwice.scenes import Scene
from seatedtwice.scripts import Script
from seatedtwice.worlds import World
from tests import plain
from tests.made import Maker

SCENE = Scene("row one\nrow two\nmark done")
WORLD = World(SCENE, "row one p q r\nrow two r p q\nmark done q")


def steps(lines, inputs=(), world=WORLD):
    """The steps of a script with these lines, which takes `a` and `b`, with the texts of the worlds."""
    head = " ".join(["takes", "a", "b"][:1 + len(inputs)])
    script = Script(world.scene, "\n".join([head, *lines, "gives"]))
    return [(line, held, told.text) for line, held, told in script.steps(world, list(inputs))]


def numbers(lines, inputs=()):
    return [line for line, _, _ in steps(lines, inputs)]


class Steps(unittest.TestCase):

    def test_the_first_tuple(self):
        self.assertEqual(steps([]), [(1, {}, WORLD.text)])
        self.assertEqual(steps([], ["p"]), [(1, {"a": "p"}, WORLD.text)])
        self.assertEqual(steps([], ["p", "p"]), [(1, {"a": "p", "b": "p"}, WORLD.text)])
        self.assertEqual(steps([], [None, "q"]), [(1, {"b": "q"}, WORLD.text)])
        self.assertEqual(steps([], [None, None]), [(1, {}, WORLD.text)])

    def test_one_tuple_behind_each_line(self):
        turned = "row one r q p\nrow two r p q\nmark done q"
        marked = "row one r q p\nrow two r p q\nmark done r q"
        self.assertEqual(steps(["b = next a one", "turn one", "mark c done", "c = last one", "mark b done", "b = nothing",
                                "mark c done", "mark d done", "c = first one", "mark c done"], ["p"]), [
            (1, {"a": "p"}, WORLD.text), (2, {"a": "p", "b": "q"}, WORLD.text), (3, {"a": "p", "b": "q"}, turned),
            (4, {"a": "p", "b": "q"}, turned), (5, {"a": "p", "b": "q", "c": "p"}, turned),
            (6, {"a": "p", "b": "q", "c": "p"}, turned), (7, {"a": "p", "c": "p"}, turned),
            (8, {"a": "p", "c": "p"}, turned.replace("done q", "done q p")),
            (9, {"a": "p", "c": "p"}, turned.replace("done q", "done q p")),
            (10, {"a": "p", "c": "r"}, turned.replace("done q", "done q p")),
            (11, {"a": "p", "c": "r"}, marked.replace("done r q", "done r q p"))])

    def test_each_form_of_a_line_is_told(self):
        lines = ["c = next a one", "c = prev a two where it is b", "c = first one", "c = last two where it missing", "c = a",
                 "c = nothing", "put a behind b one", "put a ahead b one", "swap a b two", "turn one", "sort one by two",
                 "gather one where it has done", "mark a done", "unmark a done"]
        for inputs in itertools.product([None, "p", "q"], repeat=2):
            self.assertEqual(numbers(lines, inputs), list(range(1, 16)))

    def test_lines_where_nothing_happens(self):
        lines = ["put a behind a one", "swap a c one", "mark c done", "c = d", "c = nothing", "sort one by one"]
        self.assertEqual(steps(lines, ["p"]), [(line, {"a": "p"}, WORLD.text) for line in range(1, 8)])

    def test_lines_of_blocks_are_not_told(self):
        lines = ["if a missing", "b = a", "else", "c = a", "end", "times 2", "d = a", "end"]
        self.assertEqual(numbers(lines, [None]), [1, 3, 8, 8])
        self.assertEqual(numbers(lines, ["p"]), [1, 5, 8, 8])
        self.assertEqual(numbers(["if a missing", "else", "end", "times 5", "end", "times 3", "if a is a", "end", "end"], ["p"]),
                         [1])

    def test_lines_that_the_run_does_not_come_to(self):
        lines = ["if a has done", "b = a", "times 2", "c = a", "end", "end", "d = a"]
        self.assertEqual(numbers(lines, ["q"]), [1, 3, 5, 5, 8])
        self.assertEqual(numbers(lines, ["p"]), [1, 8])

    def test_times_in_times(self):
        lines = ["times 2", "turn one", "times 3", "turn two", "if a missing", "b = a", "end", "end", "c = a", "end"]
        once = [3, *[5] * 3, 10]
        self.assertEqual(numbers(lines, ["p"]), [1, *once, *once])
        twice = [3, *[5, 7] * 3, 10]
        self.assertEqual(numbers(lines, [None]), [1, *twice, *twice])

    def test_the_register_of_a_walk_and_it(self):
        lines = ["b = first one where it has done", "b = first one where it missing", "gather one where it has done"]
        self.assertEqual([held for _, held, _ in steps(lines)], [{}, {"b": "q"}, {}, {}])

    def test_in_a_world_without_things(self):
        world = World(SCENE, "row one\nrow two\nmark done")
        lines = ["b = first one", "turn one", "mark b done", "swap a b one", "gather two where it has done"]
        self.assertEqual(steps(lines, [None], world), [(line, {}, world.text) for line in range(1, 7)])

    def test_kinds(self):
        script = Script(SCENE, "takes a\nb = next a one\nturn one\ngives b")
        told = script.steps(WORLD, ["p"])
        self.assertIsInstance(told, types.GeneratorType)
        for step in told:
            self.assertEqual([type(part) for part in step], [int, dict, World])
            self.assertIs(type(step), tuple)


class StepsAndOtherCalls(unittest.TestCase):

    def test_the_dicts_are_new(self):
        script = Script(SCENE, "takes a\nb = next a one\nc = b\nd = next b one\ngives d")
        told = []
        for line, held, world in script.steps(WORLD, ["p"]):
            told.append((line, dict(held), world))
            held.clear()
            held["b"] = "x"
        self.assertEqual(told, list(script.steps(WORLD, ["p"])))
        self.assertEqual(told[-1], (4, {"a": "p", "b": "q", "c": "q", "d": "r"}, WORLD))
        kept = list(script.steps(WORLD, ["p"]))
        self.assertEqual([len(held) for _, held, _ in kept], [1, 2, 3, 4])

    def test_two_generators_side_by_side(self):
        script = Script(SCENE, "takes a\ntimes 3\nturn one\nb = next a one\nif b missing\na = first one\nend\nend\ngives b")
        first, second = list(script.steps(WORLD, ["p"])), list(script.steps(WORLD, ["q"]))
        self.assertNotEqual(first, second)
        self.assertEqual(list(zip(script.steps(WORLD, ["p"]), script.steps(WORLD, ["q"]))), list(zip(first, second)))
        one, other = script.steps(WORLD, ["p"]), script.steps(WORLD, ["p"])
        told = [next(one), next(one), next(other), next(one), script.run(WORLD, ["p"]), next(other)]
        self.assertEqual([*told[:4], told[5]], [first[0], first[1], first[0], first[2], first[1]])
        self.assertEqual([*one], first[3:])
        self.assertEqual([*other], first[2:])

    def test_the_end_of_the_steps_is_the_end_of_the_run(self):
        source = random.Random(2)
        maker = Maker(source, SCENE.text)
        for _ in range(200):
            script = Script(SCENE, maker.script(1, 2, source.randrange(8), 100))
            world = World(SCENE, maker.world(4))
            inputs = maker.inputs(world.text, 1)
            _, held, behind = list(script.steps(world, inputs))[-1]
            self.assertEqual((tuple(held.get(name) for name in script.gives), behind), script.run(world, inputs))

    def test_the_world_and_the_inputs_stay(self):
        world = World(SCENE, WORLD.text)
        inputs = ["p"]
        script = Script(SCENE, "takes a\nturn one\nmark a done\na = nothing\ngives a")
        told = list(script.steps(world, inputs))
        self.assertEqual([world.text, world["one"], inputs], [WORLD.text, ["p", "q", "r"], ["p"]])
        self.assertEqual(told, list(script.steps(world, inputs)))
        self.assertEqual([len(told), script.run(world, inputs)[1]], [4, told[-1][2]])

    def test_errors_when_it_begins_to_yield(self):
        script = Script(SCENE, "takes a\nturn one\ngives a")
        other = World(Scene("row one"), "row one p")
        for world, inputs, error in [(WORLD, [], BadInputs), (WORLD, ["x"], BadInputs), (WORLD, ["p", "q"], BadInputs),
                                     (other, ["q"], BadInputs), (other, ["p"], OtherScene), (other, [None], OtherScene)]:
            told = script.steps(world, inputs)
            with self.subTest(inputs):
                with self.assertRaises(error) as caught:
                    next(told)
                if error == BadInputs:
                    self.assertEqual(caught.exception.index, 1 if len(inputs) == 2 else 0)
        self.assertEqual(len(list(script.steps(WORLD, ["p"]))), 2)


class AgainstAPlainReading(unittest.TestCase):

    def test_steps_of_scripts_in_worlds(self):
        source = random.Random(4)
        for text in ["row one", SCENE.text, "row one\nrow two\nrow three\nmark done\nmark seen\nlots"]:
            maker, scene = Maker(source, text), Scene(text)
            for _ in range(200):
                lines = maker.script(source.randrange(3), 1, source.randrange(1, 10), 100)
                world = maker.world(source.randrange(1, 6))
                inputs = maker.inputs(world, len(lines.split("\n")[0].split(" ")) - 1)
                want = plain.Run(maker.scene, lines, plain.read_world(maker.scene, world), inputs).steps
                told = Script(scene, lines).steps(World(scene, world), inputs)
                self.assertEqual([(line, held, behind.text) for line, held, behind in told], want, (lines, world, inputs))


if __name__ == "__main__":
    unittest.main()
