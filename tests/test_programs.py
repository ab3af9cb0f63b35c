"""What hangs on what in the lines of a script, by which searches leave out what plays no part."""

import random
import unittest

from seatedtwice.parts import kinds_of
from seatedtwice.programs import finished, in_turn, reached, within
from seatedtwice.scenes import Scene
from seatedtwice.scripts import Script
from tests import plain
from tests.made import Maker

SCENE = Scene("row one\nrow two\nrow three\nmark done\nmark seen\nlots")


def program(*lines):
    return Script(SCENE, "\n".join(lines)).program


class Reached(unittest.TestCase):

    def check(self, lines, names, want):
        self.assertEqual(sorted(reached([program("takes a", *lines, "gives a")], names)), sorted(want))

    def test_what_registers_and_blocks_ask(self):
        self.check([], [], [])
        self.check(["turn one", "swap a b two", "mark a done"], [], [])
        self.check(["b = next a one"], [], ["one"])
        self.check(["b = first one where it has done or it with a"], [], ["one", "done", "lots"])
        self.check(["if a ahead b two", "end"], [], ["two"])
        self.check(["if a missing", "b = a", "end"], [], [])

    def test_what_deeds_ask(self):
        self.check(["sort one by two"], ["one"], ["one", "two"])
        self.check(["sort one by two"], ["two"], ["two"])
        self.check(["sort one by two", "sort two by three"], ["one"], ["one", "two", "three"])
        self.check(["gather one where it has done and it ahead a three"], ["one"], ["one", "done", "three"])
        self.check(["gather one where it has done", "mark a done", "turn three"], ["one"], ["one", "done"])
        self.check(["b = last one", "sort one by two"], ["seen"], ["seen", "one", "two"])

    def test_of_two_programs(self):
        one, two = program("takes", "sort one by two", "gives"), program("takes", "gather two where it has seen", "gives")
        self.assertEqual([sorted(reached(told, ["one"])) for told in [[one], [two], [one, two]]],
                         [["one", "two"], ["one"], ["one", "seen", "two"]])


class Within(unittest.TestCase):

    def test_nothing_else_is_changed(self):
        source = random.Random(111)
        for scene_text in ["row one\nrow two\nrow three", "row one\nrow two\nmark done\nlots", SCENE.text]:
            maker, scene = Maker(source, scene_text), Scene(scene_text)
            for _ in range(80):
                script = Script(scene, maker.script(1, 2, source.randrange(1, 9), 9))
                names = reached([script.program], source.sample(list(kinds_of(scene)), 1))
                text = maker.world(4)
                world = plain.read_world(maker.scene, text)
                told = {name: world[name] if name in scene.rows or name == "lots" else dict.fromkeys(world[name], True)
                        for name in names}
                inputs = maker.inputs(text, 1)
                run = plain.Run(maker.scene, script.text, world, inputs)
                state = finished(within(script.program, names), world["one"], told, inputs)
                self.assertEqual({name: set(part) if name in scene.marks else part for name, part in state.parts.items()},
                                 {name: run.world[name] for name in names}, script.text)
                self.assertEqual([state.holding(), state.walked], [run.registers(), run.walked])


class InTurn(unittest.TestCase):

    def test_each_register_holds_what_the_other_one_held(self):
        names = "abcd"
        for one in names:
            for two in names:
                for takes in [(), ("a",), ("a", "b"), ("b", "a"), ("c", "a")]:
                    gives = (one, two)[:len(takes)]
                    known = {name: True for name in names}
                    held = {name: name.upper() for name in names}
                    for name, other in in_turn(takes, gives, known):
                        held[name] = held[other]
                    self.assertEqual([held[name] for name in takes], [name.upper() for name in gives])


if __name__ == "__main__":
    unittest.main()
