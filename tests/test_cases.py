"""[12] and the interface's part seatedtwice/cases.py: the finitely many cases of a script."""

import itertools
import random
import unittest

from seatedtwice.cases import case_of, cases
from seatedtwice.errors import BadInputs, OtherScene
from seatedtwice.scenes import Scene
from seatedtwice.scripts import Script
from seatedtwice.worlds import World
from tests import plain
from tests.made import Maker

PLAIN = "row one"
TWO = "row one\nrow two"
MARKED = "row one\nmark done"
LOTS = "row one\nlots"
FULL = "row one\nrow two\nrow three\nmark done\nmark seen\nlots"
BOUNDS = {PLAIN: 5, TWO: 4, TWO + "\nrow three": 3, MARKED: 4, LOTS: 4, TWO + "\nmark done": 3, TWO + "\nlots": 3,
          "row one\nmark done\nmark seen\nlots": 3, FULL: 2}


def told(scene, text):
    """The cases with the texts of the worlds."""
    return [(world.text, inputs, outputs) for world, inputs, outputs in cases(Script(Scene(scene), text))]


class Cases(unittest.TestCase):

    def test_the_example_of_the_interface(self):
        found = cases(Script(Scene("row one"), "takes a\nb = next a one\ngives b"))
        self.assertEqual([(world.text, inputs, outputs) for world, inputs, outputs in found],
                         [("row one", (None,), (None,)), ("row one a", ("a",), (None,)), ("row one a b", ("a",), ("b",))])

    def test_without_inputs_and_walks(self):
        self.assertEqual(told(PLAIN, "takes\ngives"), [("row one", (), ())])
        self.assertEqual(told(FULL, "takes\nturn one\ngives a a"),
                         [("row one\nrow two\nrow three\nmark done\nmark seen", (), (None, None))])

    def test_inputs_alone(self):
        self.assertEqual(told(TWO, "takes a b\ngives b"), [
            ("row one\nrow two", (None, None), (None,)), ("row one a\nrow two a", (None, "a"), ("a",)),
            ("row one a\nrow two a", ("a", None), (None,)), ("row one a\nrow two a", ("a", "a"), ("a",)),
            ("row one a b\nrow two a b", ("a", "b"), ("b",)), ("row one a b\nrow two a b", ("b", "a"), ("a",)),
            ("row one a b\nrow two b a", ("a", "b"), ("b",)), ("row one a b\nrow two b a", ("b", "a"), ("a",))])

    def test_walks(self):
        self.assertEqual(told(PLAIN, "takes\na = first one\nb = last one\ngives a b"), [
            ("row one", (), (None, None)), ("row one a", (), ("a", "a")), ("row one a b", (), ("a", "b"))])
        self.assertEqual(told(TWO, "takes\na = first one\nb = first two\ngives b"), [
            ("row one\nrow two", (), (None,)), ("row one a\nrow two a", (), ("a",)), ("row one a b\nrow two b a", (), ("b",))])
        self.assertEqual(told(PLAIN, "takes a\nb = prev a one\nb = next b one\ngives b"), [
            ("row one", (None,), (None,)), ("row one a", ("a",), (None,)), ("row one a b", ("b",), ("b",))])

    def test_marks_and_lots(self):
        self.assertEqual(told(MARKED, "takes\na = last one where it has done\ngives a"), [
            ("row one\nmark done", (), (None,)), ("row one a\nmark done a", (), ("a",))])
        self.assertEqual(told(MARKED, "takes a\nunmark a done\ngives"), [
            ("row one\nmark done", (None,), ()), ("row one a\nmark done", ("a",), ()), ("row one a\nmark done a", ("a",), ())])
        self.assertEqual(told(LOTS, "takes a\nb = next a one where not it with a\ngives b"), [
            ("row one", (None,), (None,)), ("row one a\nlot a", ("a",), (None,)),
            ("row one a b\nlot a\nlot b", ("a",), ("b",))])

    def test_deeds(self):
        self.assertEqual(told(PLAIN, "takes a b\nswap a b one\nc = first one\ngives c"), [
            ("row one", (None, None), (None,)), ("row one a", (None, None), ("a",)), ("row one a", (None, "a"), ("a",)),
            ("row one a", ("a", None), ("a",)), ("row one a", ("a", "a"), ("a",)), ("row one a b", (None, "b"), ("a",)),
            ("row one a b", ("a", "b"), ("b",)), ("row one a b", ("b", None), ("a",)), ("row one a b", ("b", "a"), ("b",)),
            ("row one a b", ("b", "b"), ("a",)), ("row one a b c", ("b", "c"), ("a",)), ("row one a b c", ("c", "b"), ("a",))])

    def test_kinds(self):
        script = Script(Scene(TWO), "takes a\nb = next a one\ngives b a")
        found = cases(script)
        self.assertIs(type(found), list)
        for case in found:
            self.assertEqual([type(case), *[type(part) for part in case]], [tuple, World, tuple, tuple])
            self.assertEqual([case[0].scene, case[0].text], [Scene(TWO), case[0].form()])
        found.pop()
        found[0] = None
        self.assertEqual(len(cases(script)), len(found) + 1)

    def test_the_order(self):
        source = random.Random(41)
        for scene in [PLAIN, TWO, LOTS, MARKED, TWO + "\nmark done"]:
            maker = Maker(source, scene)
            for _ in range(10):
                found = cases(Script(Scene(scene), maker.script(2, 1, 3, 1)))
                places = [(len(world), world.text, [(thing is not None, thing or "") for thing in inputs])
                          for world, inputs, _ in found]
                self.assertEqual(places, sorted(places))
                self.assertEqual(len({str(place) for place in places}), len(places))

    def test_texts_that_begin_with_another_one(self):
        texts = [text for text, _, _ in told(MARKED, "takes a b\ngives")]
        self.assertEqual(texts[:6], ["row one\nmark done"] + ["row one a\nmark done"] * 3 + ["row one a\nmark done a"] * 2)
        texts = [text.replace("row one a b\n", "") for text, _, _ in told(LOTS, "takes a b\ngives a")][4:]
        self.assertEqual(texts, ["lot a\nlot b"] * 2 + ["lot a b"] * 2)

    def test_each_case_is_its_own_case(self):
        source = random.Random(42)
        for scene, most in BOUNDS.items():
            maker = Maker(source, scene)
            for _ in range(5):
                script = Script(Scene(scene), maker.script(1, 1, 5, most - 1))
                for world, inputs, outputs in cases(script):
                    self.assertEqual(sorted(script.visited(world, inputs)), sorted(world[script.scene.rows[0]]))
                    self.assertEqual(script.run(world, inputs)[0], outputs)
                    self.assertEqual(case_of(script, world, inputs), (world, inputs, outputs))

    def test_up_to_the_bounds(self):
        chain = "b = next a one\nc = next b one\nd = next c one"
        self.assertEqual(len(told(TWO, f"takes a\n{chain}\ngives d")), 1 + 1 + 2 + 6 + 24)
        apart = "takes a b\nc = first one where not it is a and not it is b\n"
        self.assertEqual(len(told(TWO + "\nrow three", f"{apart}d = next c one where not it is a and not it is b\ngives d")),
                         sum(self.many_apart(2, many) for many in range(5)))
        part = "it ahead a two and not it ahead a three and it has done and not it has seen and not it with a"
        found = told(FULL, f"takes a\nb = next a one where {part}\ngives b")
        self.assertEqual(found, plain.cases(plain.Scene(FULL), f"takes a\nb = next a one where {part}\ngives b"))

    def many_apart(self, walks, many):
        """How many cases with so many things there are for two inputs and walks through the other things, three rows."""
        total = 0
        for held, patterns in [(0, 1), (1, 3), (2, 1)]:
            if 0 <= many - held <= walks:
                orders = 1
                for size in range(2, many + 1):
                    orders *= size
                # The inputs may stand anywhere in the first row; the others are named by the order of their coming.
                places = {0: 1, 1: many, 2: many * (many - 1)}[held]
                total += patterns * places * orders ** 2
        return total


class CaseOf(unittest.TestCase):

    SCENE = Scene("row one\nrow two\nmark done\nlots")
    WORLD = World(SCENE, "row one p q r s\nrow two s q p r\nmark done q s\nlot p r\nlot q\nlot s")

    def test_a_world_is_cut_to_what_is_visited(self):
        script = Script(self.SCENE, "takes a\nb = next a one where it has done\ngives b")
        world, inputs, outputs = case_of(script, self.WORLD, ["r"])
        self.assertEqual(world.text, "row one a b\nrow two b a\nmark done b\nlot a\nlot b")
        self.assertEqual([inputs, outputs, type(inputs), type(outputs)], [("a",), ("b",), tuple, tuple])
        world, inputs, outputs = case_of(script, self.WORLD, ["s"])
        self.assertEqual([world.text, inputs, outputs], ["row one a\nrow two a\nmark done a\nlot a", ("a",), (None,)])
        world, inputs, outputs = case_of(script, self.WORLD, [None])
        self.assertEqual([world.text, inputs, outputs], ["row one\nrow two\nmark done", (None,), (None,)])

    def test_the_world_before_the_run_is_told(self):
        script = Script(self.SCENE, "takes a b\nturn one\nmark a done\nswap a b two\nc = last one\ngives a c")
        world, inputs, outputs = case_of(script, self.WORLD, ("r", "q"))
        self.assertEqual(world.text, "row one a b c\nrow two b a c\nmark done b\nlot a c\nlot b")
        self.assertEqual([inputs, outputs], [("c", "b"), ("c", "a")])

    def test_the_world_and_the_inputs_stay(self):
        script = Script(self.SCENE, "takes a\nturn one\nunmark a done\ngives a")
        world, inputs = World(self.SCENE, self.WORLD.text), ["q"]
        self.assertEqual(case_of(script, world, inputs), case_of(script, world, inputs))
        self.assertEqual([world.text, inputs], [self.WORLD.text, ["q"]])

    def test_errors(self):
        script = Script(self.SCENE, "takes a\nb = next a one\ngives b")
        other = World(Scene(PLAIN), "row one p")
        for world, inputs, index in [(self.WORLD, [], 0), (self.WORLD, ["x"], 0), (self.WORLD, ["p", "q"], 1),
                                     (self.WORLD, ["", "x"], 0), (other, ["q"], 0), (other, [], 0), (other, ["p", None], 1)]:
            with self.subTest(inputs):
                with self.assertRaises(BadInputs) as caught:
                    case_of(script, world, inputs)
                self.assertEqual(caught.exception.index, index)
        for inputs in [["p"], [None]]:
            self.assertRaises(OtherScene, case_of, script, other, inputs)

    def test_any_world_and_inputs_have_one_of_the_cases(self):
        source = random.Random(43)
        for scene_text, most in BOUNDS.items():
            maker, scene = Maker(source, scene_text), Scene(scene_text)
            for _ in range(6):
                takes = source.randrange(min(most, 2) + 1)
                text = maker.script(takes, source.randrange(3), source.randrange(1, 6), most - takes)
                script = Script(scene, text)
                found = [(world.text, inputs, outputs) for world, inputs, outputs in cases(script)]
                for _ in range(20):
                    world = maker.world(source.randrange(1, 9))
                    inputs = maker.inputs(world, takes)
                    told_world, told_inputs, outputs = case_of(script, World(scene, world), inputs)
                    case = (told_world.text, told_inputs, outputs)
                    self.assertEqual(case, plain.case_of(maker.scene, text, plain.read_world(maker.scene, world), inputs))
                    self.assertEqual(found.count(case), 1, (text, world, inputs))

    def test_a_world_with_hundreds_of_things(self):
        maker = Maker(random.Random(44), FULL)
        text = maker.world(300)
        script = Script(Scene(FULL), "takes a\nb = next a one where it ahead a two\nc = first three where it with b\ngives c")
        world = World(Scene(FULL), text)
        scene = plain.Scene(FULL)
        for thing in world["two"][:40]:
            told_world, inputs, outputs = case_of(script, world, [thing])
            self.assertEqual((told_world.text, inputs, outputs),
                             plain.case_of(scene, script.text, plain.read_world(scene, text), (thing,)))


class AgainstAllWorlds(unittest.TestCase):

    def test_all_cases(self):
        source = random.Random(45)
        many = 0
        for scene_text, most in BOUNDS.items():
            maker = Maker(source, scene_text)
            for _ in range(30):
                takes = source.randrange(min(most, 2) + 1)
                text = maker.script(takes, source.randrange(3), source.randrange(1, 6), most - takes)
                want = plain.cases(maker.scene, text)
                self.assertEqual(told(scene_text, text), want, text)
                many += len(want)
        self.assertGreater(many, 2000)

    def test_one_line_each(self):
        for scene_text in [TWO, TWO + "\nmark done\nlots"]:
            rows = ["one", "two"]
            starts = [f"b = {word} a {row}" for word, row in itertools.product(["next", "prev"], rows)]
            starts += [f"b = {word} {row}" for word, row in itertools.product(["first", "last"], rows)]
            conditions = ["", " where it ahead a two", " where not it is a", " where a missing"]
            for start, condition in itertools.product(starts, conditions):
                text = f"takes a\n{start}{condition}\ngives b"
                self.assertEqual(told(scene_text, text), plain.cases(plain.Scene(scene_text), text))


if __name__ == "__main__":
    unittest.main()
