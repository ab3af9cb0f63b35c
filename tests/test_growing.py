"""How the searches find worlds: each way in which things can stand once, and no world that need not be looked at."""

import random
import unittest

from seatedtwice.cases import OneRun
from seatedtwice.growing import all_parts, growing, input_patterns
from seatedtwice.parts import kinds_of, letters_for, world_from
from seatedtwice.scenes import Scene
from seatedtwice.scripts import Script
from tests import plain
from tests.made import Maker

SCENES = {"row one": 5, "row one\nrow two": 4, "row one\nmark done": 4, "row one\nlots": 4,
          "row one\nrow two\nmark done\nlots": 3, "row one\nrow two\nrow three\nmark done\nmark seen\nlots": 2}


class Search(OneRun):
    """A search in which things may be there that the run does not visit; it counts its runs."""

    def __init__(self, script, spare):
        super().__init__(script)
        self.spare = spare
        self.runs = 0

    def begun(self, things, parts, inputs):
        self.runs += 1
        return super().begun(things, parts, inputs)


def stands(script, spare=0):
    """(text of the world in its form, inputs) of all stands, in their order, and how many runs were done."""
    search = Search(script, spare)
    told = []
    for stand in growing([search]):
        names = letters_for(stand.parts["one"])
        told.append((world_from(script.scene, stand.parts, names).text, tuple([names.get(thing) for thing in stand.inputs])))
    return told, search.runs


class Growing(unittest.TestCase):

    def test_all_parts(self):
        for text, most in SCENES.items():
            scene = Scene(text)
            for many in range(most):
                things = list("abcd"[:many])
                texts = [world_from(scene, parts, letters_for(parts["one"])).text
                         for parts in all_parts(kinds_of(scene), things)]
                self.assertEqual(set(texts), {plain.write_world(plain.Scene(text), world)
                                              for world in plain.all_worlds(plain.Scene(text), many)})
                orders = 1
                for size in range(2, many + 1):
                    orders *= size
                self.assertEqual(len(texts), len(set(texts)) * orders)

    def test_input_patterns(self):
        self.assertEqual(input_patterns(0), [()])
        self.assertEqual(input_patterns(1), [(None,), ("a",)])
        self.assertEqual(input_patterns(2), [(None, None), (None, "a"), ("a", None), ("a", "a"), ("a", "b")])

    def test_each_stand_once(self):
        source = random.Random(51)
        for text, most in SCENES.items():
            maker = Maker(source, text)
            for _ in range(25):
                takes = source.randrange(min(most, 2) + 1)
                script = Script(Scene(text), maker.script(takes, 1, source.randrange(1, 6), most - takes))
                told, _ = stands(script)
                self.assertEqual(len(told), len(set(told)), script.text)
                self.assertEqual(set(told), {case[:2] for case in plain.cases(maker.scene, script.text)})
                sizes = [len(world.split("\n")[0].split(" ")) for world, _ in told]
                self.assertEqual(sizes, sorted(sizes))

    def test_things_that_no_run_visits(self):
        scene = plain.Scene("row one\nrow two")
        for lines, takes in [("takes a\nturn one\ngives a", 1), ("takes\nb = last two\ngives b", 0),
                             ("takes a\nb = next a one where it ahead a two\ngives b", 1)]:
            script = Script(Scene(scene.text), lines)
            for spare in range(3):
                want = set()
                for many in range(takes + script.walks + spare + 1):
                    for world in plain.all_worlds(scene, many):
                        for inputs in plain.all_inputs(many, takes):
                            visited = plain.Run(scene, lines, world, inputs).visited
                            if many - len(visited) <= spare:
                                want.add((plain.write_world(scene, world), inputs))
                told = stands(script, spare)[0]
                self.assertEqual(set(told), want)
                self.assertEqual(len(told), len(want))

    def test_no_search_where_no_walk_can_find_more(self):
        script = Script(Scene("row one\nrow two\nrow three\nmark done\nmark seen\nlots"), "takes a\nturn one\ngives a")
        self.assertEqual(stands(script)[1], 1 + 4)
        # A thing beside nothing as the input, the input in four places beside one thing, and no third thing.
        script = Script(Scene("row one\nrow two"), "takes a\nb = next a one\ngives a")
        self.assertEqual([len(stands(script)[0]), stands(script)[1]], [1 + 1 + 2, 1 + 1 + 1 + 4])


if __name__ == "__main__":
    unittest.main()
