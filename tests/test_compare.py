"""[10] and the interface's part seatedtwice/compare.py: what two scripts tell and leave."""

import random
import unittest

from seatedtwice.compare import alike, beyond, is_within, leave_alike, leaving, parting
from seatedtwice.errors import OtherScene, Unlike
from seatedtwice.scenes import Scene
from seatedtwice.scripts import Script
from seatedtwice.worlds import World
from tests import plain
from tests.made import Maker

PLAIN = "row one"
TWO = "row one\nrow two"
MARKED = "row one\nmark done"
LOTS = "row one\nlots"
FULL = "row one\nrow two\nrow three\nmark done\nmark seen\nlots"

# For each text of a scene, how many things can matter at most in the searches of these tests.
BOUNDS = {PLAIN: 5, TWO: 4, "row one\nrow two\nrow three": 3, MARKED: 4, LOTS: 4, "row one\nrow two\nmark done": 3,
          "row one\nrow two\nlots": 3, "row one\nmark done\nmark seen\nlots": 3, FULL: 2}


def scripts(scene, *texts):
    return [Script(Scene(scene), text) for text in texts]


class Comparing(unittest.TestCase):

    def check_shown(self, scene, told, many, shows):
        """What is told is None if no number of things is wanted, or a world of so many things that shows it."""
        if many is None:
            self.assertIs(told, None)
            return
        self.assertIs(type(told), tuple)
        world, inputs = told
        self.assertEqual([type(world), type(inputs)], [World, tuple])
        self.assertEqual([len(world), world.text, world.scene], [many, world.form(), Scene(scene.text)])
        self.assertTrue(shows(plain.read_world(scene, world.text), inputs), (world.text, inputs))

    def check(self, scene_text, one, two, parting_in=None, beyond_in=None, back_in=None):
        """The numbers of things in which two scripts part, and in which each one goes beyond the other."""
        scene = plain.Scene(scene_text)
        first, second = scripts(scene_text, one, two)
        for left, right in [(first, second), (second, first)]:
            self.check_shown(scene, parting(left, right), parting_in,
                             lambda world, inputs: plain.parts(scene, one, two, world, inputs))
            self.assertIs(alike(left, right), parting_in is None)
        self.check_shown(scene, beyond(first, second), beyond_in,
                         lambda world, inputs: plain.goes_beyond(scene, one, two, world, inputs))
        self.check_shown(scene, beyond(second, first), back_in,
                         lambda world, inputs: plain.goes_beyond(scene, two, one, world, inputs))
        self.assertEqual([is_within(first, second), is_within(second, first)], [beyond_in is None, back_in is None])

    def check_leaving(self, scene_text, one, two, many):
        scene = plain.Scene(scene_text)
        first, second = scripts(scene_text, one, two)
        for left, right in [(first, second), (second, first)]:
            self.check_shown(scene, leaving(left, right), many,
                             lambda world, inputs: plain.leaves(scene, one, two, world, inputs))
            self.assertIs(leave_alike(left, right), many is None)


class Telling(Comparing):

    def test_a_script_and_itself(self):
        for text in ["takes\ngives", "takes a\ngives a", "takes a b\nc = next a one\nd = prev c one\ngives d c"]:
            self.check(PLAIN, text, text)

    def test_other_names_and_other_ways_of_the_same(self):
        self.check(PLAIN, "takes a\nb = next a one\ngives b", "takes b\na = next b one\ngives a")
        self.check(PLAIN, "takes a\nb = next a one\ngives b", "takes a\nturn one\nb = prev a one\ngives b")
        self.check(PLAIN, "takes\na = first one\ngives a", "takes\nturn one\na = last one\ngives a")
        self.check(TWO, "takes a\nb = next a two\ngives b", "takes a\nsort one by two\nb = next a one\ngives b")
        self.check(PLAIN, "takes a\nb = next a one where it ahead a one\ngives b", "takes a\ngives b")
        self.check(PLAIN, "takes a b\nif a ahead b one\nc = a\nelse\nc = b\nend\ngives c",
                   "takes a b\nif not a missing and ( not b missing and not ( b ahead a one or a is b ) )\nc = a\nelse\n"
                   "c = b\nend\ngives c")

    def test_without_things(self):
        self.check(PLAIN, "takes a\nif a missing\nb = nothing\nend\ngives b", "takes a\ngives b")
        self.check(PLAIN, "takes\na = first one\ngives a", "takes\na = last one\ngives a", 2, 2, 2)
        self.check(PLAIN, "takes\na = first one\ngives a", "takes\ngives a", 1, 1)

    def test_without_inputs_or_outputs(self):
        self.check(PLAIN, "takes\ngives", "takes\na = first one\nturn one\ngives")
        self.check(TWO, "takes a b\nc = next a two\ngives", "takes a b\nswap a b one\ngives")
        self.check(TWO, "takes\na = first one\nb = next a one\ngives b", "takes\na = first two\nb = next a two\ngives b",
                   2, 2, 2)

    def test_there_and_back(self):
        self.check(PLAIN, "takes a\nb = next a one\nb = prev b one\ngives b", "takes a\ngives a", 1, None, 1)
        self.check(PLAIN, "takes a\nb = next a one\nb = next b one\nb = prev b one\nb = prev b one\ngives b",
                   "takes a\nb = next a one\nb = prev b one\ngives b", 2, None, 2)
        self.check(TWO, "takes a\nb = next a one\nb = prev b two\ngives b", "takes a\ngives a", 1, 3, 1)

    def test_how_many_things_it_takes(self):
        walk = "b = next b one"
        for many in range(5):
            lines = "\n".join([walk] * many)
            self.check(PLAIN, f"takes b\n{lines}\ngives b".replace("\n\n", "\n"), "takes b\ngives c", many + 1, many + 1)
        self.check(PLAIN, "takes a b\nc = next a one where not it is b\nd = next c one where not it is b\ngives d",
                   "takes a b\ngives c", 3, 3)
        self.check(TWO, "takes a\nb = next a one where it ahead a two\nc = next b one where it ahead b two\ngives c",
                   "takes a\ngives b", 3, 3)

    def test_two_outputs(self):
        self.check(PLAIN, "takes a b\ngives a b", "takes a b\ngives b a", 1, 2, 2)
        self.check(PLAIN, "takes a\nb = next a one\ngives a b", "takes a\nb = next a one\ngives b b", 1, 2, 2)
        self.check(PLAIN, "takes a\nb = next a one\ngives a b", "takes a\nb = next a one\nif b missing\na = nothing\nend\n"
                   "gives a b", 1, None, None)

    def test_marks(self):
        self.check(MARKED, "takes a\nb = next a one where it has done\ngives b", "takes a\nb = next a one\ngives b", 2, 3, 2)
        self.check(MARKED, "takes a\nmark a done\nb = first one where it has done\ngives b",
                   "takes a\nif not a has done\nb = a\nend\nc = first one where it has done\n"
                   "if b missing or c ahead b one\nb = c\nend\ngives b")
        self.check(MARKED, "takes a\nunmark a done\nif a has done\nb = a\nend\ngives b", "takes a\ngives b")

    def test_lots(self):
        self.check(LOTS, "takes a\nb = next a one where it with a\ngives b", "takes a\nb = next a one\ngives b", 2, 3, 2)
        self.check(LOTS, "takes a b\nc = next a one where it with a and not it with b\ngives c",
                   "takes a b\nif not a with b\nc = next a one where it with a\nend\nif b missing\nc = next a one where "
                   "it with a\nend\ngives c")

    def test_where_rows_meet(self):
        self.check(TWO, "takes a\nb = next a one where it ahead a two\ngives b", "takes a\nb = prev a two where a ahead it one\n"
                   "gives b", 3, 3, 3)
        self.check(TWO, "takes\na = first one\nb = first two\nif a is b\nc = a\nend\ngives c",
                   "takes\na = first one where not it missing\nc = first two where it is a\nb = prev c two\n"
                   "if not b missing\nc = nothing\nend\ngives c")

    def test_nothing_but_the_scene_is_read_from_the_texts(self):
        self.check("row a\nrow b", "takes a\nb = next a b\ngives b", "takes b\na = next b a\ngives a", 2, 2, 2)

    def test_both_are_kinds_of_bool(self):
        one, two = scripts(PLAIN, "takes a\ngives a", "takes a\nb = next a one\ngives b")
        for call in [alike, is_within, leave_alike]:
            self.assertEqual([type(call(one, two)), type(call(one, one))], [bool, bool])

    def test_up_to_the_bounds(self):
        """Five things for two rows, four for three rows or with a mark or lots, three for all other scenes."""
        self.check(TWO, "takes a b\nc = next a one where not it is b\nd = next c two where not it is b\ngives d c",
                   "takes a b\nif a missing\nelse\nc = next a one where not it is b\nend\nd = nothing\ngives d c", 2, 2)
        self.check(TWO, "takes a b\nc = next a one where it ahead b two\nd = next c two where it ahead a one\ngives d",
                   "takes a b\nc = next a one where a ahead it one and not b missing and not b ahead it two and not b is it\n"
                   "turn two\nd = prev c two where not a missing and not a is it and not a ahead it one\ngives d")
        for line, part in [("row three", "it ahead a three"), ("mark done", "it has done"), ("lots", "it with a")]:
            self.check(f"{TWO}\n{line}", f"takes a\nb = next a one where {part}\nc = next b two where {part}\ngives c",
                       f"takes a\nb = next a one where not not {part}\nd = c\nturn two\nc = prev b two where ( {part} )\n"
                       "turn two\ngives c")
        part = "it ahead a two and not it ahead a three and it has done and not it has seen and not it with a"
        self.check(FULL, f"takes a\nb = next a one where {part}\ngives b",
                   f"takes a\nturn one\nb = prev a one where {part} and not it is a\ngives b")
        self.check(FULL, f"takes a\nb = next a one where {part}\ngives b", "takes a\ngives b", 2, 2)


class Leaving(Comparing):

    def test_the_same(self):
        self.check_leaving(PLAIN, "takes\ngives", "takes\nturn one\nturn one\ngives", None)
        self.check_leaving(PLAIN, "takes a\ngives a", "takes b\nc = next b one\ngives", None)
        self.check_leaving(PLAIN, "takes a b\nswap a b one\ngives", "takes a b\nswap b a one\ngives a b", None)
        self.check_leaving(TWO, "takes\nsort one by two\ngives", "takes\nsort one by two\nsort two by one\ngives", None)
        self.check_leaving(MARKED, "takes a\nmark a done\nunmark a done\ngives", "takes a\nunmark a done\ngives", None)
        self.check_leaving(MARKED, "takes\ngather one where it has done\nturn one\ngives",
                           "takes\nturn one\ngather one where not it has done\ngives", None)
        self.check_leaving(PLAIN, "takes a\nb = next a one\nput a behind b one\ngives",
                           "takes a\nb = next a one\nswap a b one\ngives", None)

    def test_things_that_no_run_visits(self):
        self.check_leaving(PLAIN, "takes\nturn one\ngives", "takes\ngives", 2)
        self.check_leaving(TWO, "takes\nsort one by two\ngives", "takes\ngives", 2)
        self.check_leaving(TWO, "takes\nsort one by two\ngives", "takes\nsort two by one\ngives", 2)
        self.check_leaving(MARKED, "takes\ngather one where it has done\ngives", "takes\ngives", 2)
        self.check_leaving(LOTS, "takes a\ngather one where it with a\ngives", "takes a\ngives", 2)
        self.check_leaving(PLAIN, "takes a b\nput a behind b one\ngives", "takes a b\nswap a b one\ngives", 2)
        self.check_leaving(PLAIN, "takes a b\nif a ahead b one\nput a behind b one\nend\ngives",
                           "takes a b\nif a ahead b one\nswap a b one\nend\ngives", 3)
        self.check_leaving(TWO, "takes\nsort two by one\nturn one\nsort one by two\ngives", "takes\nsort two by one\ngives", None)
        self.check_leaving(LOTS, "takes a\ngather one where not a missing and not it with a\ngives", "takes a\ngives", 2)
        self.check_leaving(PLAIN, "takes a\ngather one where it ahead a one\ngives", "takes a\ngives", None)
        self.check_leaving(PLAIN, "takes a\nb = last one\nif not a is b\nput a behind b one\nend\ngives",
                           "takes a\ngather one where not it is a and not a missing\ngives", None)

    def test_two_things_more_than_the_inputs(self):
        """The one script turns the things before `a`, those between `a` and `b`, and those behind `b` around."""
        turned = ["if a ahead b two", "turn one", "gather one where it is b", "gather one where it ahead b two",
                  "gather one where it is a", "gather one where it ahead a two", "end"]
        still, turning = "takes a b\nsort two by one\ngives", "\n".join(["takes a b", "sort two by one", *turned, "gives"])
        self.check_leaving(TWO, still, turning, 4)
        walk = "c = next a two where it ahead b two"
        self.check_leaving(TWO, still, turning.replace("turn one", f"{walk}\nif not c missing\nturn one\nend"), 4)
        self.check_leaving(LOTS, "takes a b\nif not a with b\ngather one where it with a\ngather one where it with b\nend\n"
                           "gives", "takes a b\nif not a with b\ngather one where it with b or it with a\n"
                           "gather one where it with b\nend\ngives", None)

    def test_marks(self):
        self.check_leaving(MARKED, "takes a\nmark a done\ngives", "takes a\ngives", 1)
        self.check_leaving(MARKED, "takes\na = first one\nmark a done\ngives", "takes\na = last one\nmark a done\ngives", 2)
        self.check_leaving(MARKED, "takes\na = first one\na = next a one\nmark a done\ngives", "takes\ngives", 2)

    def test_rows_and_marks_that_have_nothing_to_do_with_each_other(self):
        """The fewest things are those of any of them."""
        three, two = "takes a b\nif a ahead b one\nput a behind b one\nend", "turn two"
        still = "takes a b\nif a ahead b one\nswap a b one\nend"
        self.check_leaving(TWO, f"{three}\ngives", f"{still}\ngives", 3)
        self.check_leaving(TWO, f"{three}\n{two}\ngives", f"{still}\ngives", 2)
        self.check_leaving(TWO, f"{three}\n{two}\ngives", f"{still}\n{two}\ngives", 3)
        self.check_leaving(TWO, f"{three}\n{two}\ngives", f"{three}\n{two}\ngives", None)
        self.check_leaving("row one\nrow two\nrow three\nmark done", "takes a\nturn three\nunmark a done\ngives",
                           "takes a\nturn three\nmark a done\ngives", 1)
        self.check_leaving("row one\nrow two\nrow three\nmark done", "takes a\nsort three by two\nmark a done\ngives",
                           "takes a\nmark a done\nsort three by two\nsort two by three\ngives", None)
        self.check_leaving("row one\nrow two\nrow three", "takes a\nsort three by two\nsort two by one\ngives",
                           "takes a\nsort two by one\nsort three by two\ngives", 2)
        self.check_leaving("row one\nrow two\nmark done", "takes a\nb = next a two\nmark b done\nturn one\ngives",
                           "takes a\nturn one\nb = next a two\nmark b done\ngives", None)
        self.check_leaving("row one\nrow two\nmark done", "takes a\nb = next a one\nmark b done\nturn one\ngives",
                           "takes a\nturn one\nb = next a one\nmark b done\ngives", 2)

    def test_deeds_and_the_same_deeds_backwards(self):
        scene, long = "row abcdefghijkl\nrow zz", "abcdefghijkl"
        deeds = ["swap x y zz", "turn zz", f"turn {long}", f"swap x y {long}", f"swap x y {long}", f"swap y x {long}"]
        two = "\n".join(["takes x y", *deeds, *reversed(deeds), "gives"])
        self.check_leaving(scene, "takes x y\ngives", two, None)
        self.check_leaving(scene, "takes x y\ngives", two.replace("\ngives", f"\nswap y x {long}\ngives"), 2)
        self.check_leaving(scene, "takes x y\ngives", two.replace("turn zz", "swap x y zz", 1), 2)
        source = random.Random(23)
        shown = {}
        for scene_text in [PLAIN, TWO]:
            scene = plain.Scene(scene_text)
            for _ in range(40):
                lines = [source.choice([f"{word} {row}" for word in ("turn", "swap x y", "swap y x") for row in scene.rows])
                         for _ in range(source.randrange(7))]
                back = lines[::-1]
                if lines and source.randrange(3) == 0:
                    back[source.randrange(len(back))] = source.choice(lines)
                text = "\n".join(["takes x y", *lines, *back, "gives"])
                many = plain.fewest(scene, 4, 2, lambda world, inputs: plain.leaves(scene, text, "takes x y\ngives", world, inputs))
                self.check_leaving(scene_text, text, "takes x y\ngives", many)
                shown[many] = shown.get(many, 0) + 1
        self.assertGreater(min(shown[many] for many in (None, 2)), 5)

    def test_what_is_given_plays_no_part(self):
        self.check_leaving(PLAIN, "takes a\nb = next a one\ngives b", "takes a\ngives a a", None)

    def test_up_to_the_bounds(self):
        self.check_leaving(TWO, "takes a b\nc = next a one where it ahead b two\nput b behind c one\ngives",
                           "takes a b\nturn one\nc = prev a one where it ahead b two\nput b ahead c one\nturn one\ngives", None)
        part = "it ahead a two and not it ahead a three and it has done and not it has seen and not it with a"
        one, two = scripts(FULL, f"takes a\ngather one where {part}\ngives",
                           f"takes a\nturn one\ngather one where not ( {part} )\nturn one\ngives")
        self.assertTrue(leave_alike(one, two))
        self.check_leaving(FULL, f"takes a\ngather one where {part}\ngives", "takes a\ngives", 2)


class Examples(unittest.TestCase):

    def test_the_examples_of_the_interface(self):
        scene = Scene("row one")
        there, still = Script(scene, "takes a\nb = next a one\nb = prev b one\ngives b"), Script(scene, "takes a\ngives a")
        world, inputs = parting(there, still)
        self.assertEqual([world.text, inputs, is_within(there, still), is_within(still, there)],
                         ["row one a", ("a",), True, False])
        scene = Scene("row one\nrow two")
        walk, ordered = Script(scene, "takes a\nb = next a one\ngives b"), \
            Script(scene, "takes a\nsort one by two\nb = next a one\ngives b")
        self.assertEqual(leave_alike(walk, ordered), False)


class Errors(unittest.TestCase):

    CALLS = [parting, alike, beyond, is_within]

    def test_unlike(self):
        texts = {(takes, gives): "\n".join([" ".join(["takes", "a", "b"][:takes + 1]), " ".join(["gives", "a", "b"][:gives + 1])])
                 for takes in range(3) for gives in range(3)}
        for one, first in texts.items():
            for two, second in texts.items():
                left, right = scripts(TWO, first, second)
                for call in self.CALLS:
                    if one == two:
                        self.assertIn(call(left, right), (None, True))
                    else:
                        self.assertRaises(Unlike, call, left, right)
                for call in [leaving, leave_alike]:
                    if one[0] == two[0]:
                        self.assertIn(call(left, right), (None, True))
                    else:
                        self.assertRaises(Unlike, call, left, right)

    def test_unlike_ahead_of_another_scene(self):
        one = Script(Scene(PLAIN), "takes a\ngives a")
        for call in [*self.CALLS, leaving, leave_alike]:
            self.assertRaises(OtherScene, call, one, Script(Scene(TWO), "takes a\ngives a"))
            self.assertRaises(OtherScene, call, Script(Scene("row two"), "takes a\ngives a"), one)
            self.assertRaises(Unlike, call, one, Script(Scene(TWO), "takes\ngives a"))
            self.assertRaises(Unlike, call, Script(Scene(TWO), "takes a b\ngives a"), one)
        for call in self.CALLS:
            self.assertRaises(Unlike, call, one, Script(Scene(TWO), "takes a\ngives"))
        for call in [leaving, leave_alike]:
            self.assertRaises(OtherScene, call, one, Script(Scene(TWO), "takes a\ngives"))

    def test_scenes_of_the_same_text(self):
        one, two = Script(Scene(PLAIN), "takes a\ngives a"), Script(Scene(PLAIN), "takes b\ngives b")
        self.assertEqual([call(one, two) for call in [*self.CALLS, leaving, leave_alike]],
                         [None, True, None, True, None, True])

    def test_refused_beyond_the_bounds(self):
        lines = "\n".join(["c = next a one"] * 58)
        one, two = scripts(FULL, f"takes a b\n{lines}\ngives c", f"takes a b\n{lines}\ngives c c")
        for call in self.CALLS:
            self.assertRaises(Unlike, call, one, two)


class AgainstAllWorlds(Comparing):
    """Scripts with all small worlds and all inputs tried."""

    def test_what_scripts_tell(self):
        source = random.Random(21)
        shown = {}
        for scene_text, most in BOUNDS.items():
            maker = Maker(source, scene_text)
            for _ in range(30):
                one, two = pair(source, maker, most)
                many_inputs = len(one.split("\n")[0].split(" ")) - 1
                bound = plain.bound(one, two)
                told = [plain.fewest(maker.scene, bound, many_inputs, lambda world, inputs: shows(
                    maker.scene, *texts, world, inputs)) for shows, texts in [
                        (plain.parts, (one, two)), (plain.goes_beyond, (one, two)), (plain.goes_beyond, (two, one))]]
                self.check(scene_text, one, two, *told)
                for many in told:
                    shown[many] = shown.get(many, 0) + 1
        self.assertGreater(min(shown[many] for many in (None, 1, 2)), 8)

    def test_what_scripts_leave(self):
        source = random.Random(22)
        shown = {}
        for scene_text, most in BOUNDS.items():
            maker = Maker(source, scene_text)
            for _ in range(40):
                one, two = pair(source, maker, most - 2)
                many_inputs = len(one.split("\n")[0].split(" ")) - 1
                many = plain.fewest(maker.scene, plain.bound(one, two) + 2, many_inputs,
                                    lambda world, inputs: plain.leaves(maker.scene, one, two, world, inputs))
                self.check_leaving(scene_text, one, two, many)
                shown[many] = shown.get(many, 0) + 1
        self.assertGreater(min(shown[many] for many in (None, 2)), 30)


def pair(source, maker, most):
    """Two scripts with as many inputs and outputs, for which at most so many things count."""
    while True:
        takes, gives = source.randrange(min(most, 2) + 1), source.choice([0, 1, 1, 2])
        one = maker.script(takes, gives, source.randrange(1, 6), most)
        two = maker.changed(one) if source.randrange(3) else maker.script(takes, gives, source.randrange(1, 6), most)
        if plain.bound(one, two) <= most and max(len(one.split("\n")), len(two.split("\n"))) <= 60:
            return one, two


if __name__ == "__main__":
    unittest.main()
