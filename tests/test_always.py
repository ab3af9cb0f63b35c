"""[14] and the interface's part seatedtwice/sayings.py: which sayings always hold behind scripts, and which are kept."""

import random
import unittest

from seatedtwice.errors import BadSaying, OtherScene
from seatedtwice.sayings import Saying, always, breach, breaking, keeps
from seatedtwice.scenes import Scene
from seatedtwice.scripts import Script
from seatedtwice.walks import Walk
from seatedtwice.worlds import World
from tests import plain, plain_sayings
from tests.made import Maker

PLAIN = "row one"
TWO = "row one\nrow two"
THREE = "row one\nrow two\nrow three"
MARKED = "row one\nmark done"
LOTS = "row one\nlots"
FULL = "row one\nrow two\nrow three\nmark done\nmark seen\nlots"

# For each text of a scene, how many things can matter at most in the searches of these tests.
BOUNDS = {PLAIN: 5, TWO: 4, THREE: 3, MARKED: 4, LOTS: 4, TWO + "\nmark done": 3, TWO + "\nlots": 3,
          "row one\nmark done\nmark seen\nlots": 3, FULL: 2}

AGREE = "all x y ( not x ahead y one or x ahead y two )"
TURNED = "all x y ( not x ahead y one or y ahead x two )"


class Shown(unittest.TestCase):

    def check_told(self, scene_text, first, text, then, told, many):
        """What is told is None if no number of things is wanted, or a world of so many things that shows it."""
        scene = plain.Scene(scene_text)
        if many is None:
            self.assertIs(told, None, (first, text, then))
            return
        self.assertIs(type(told), tuple, (first, text, then))
        world, inputs = told
        self.assertEqual([type(world), type(inputs)], [World, tuple])
        self.assertEqual([len(world), world.text, world.scene], [many, world.form(), Scene(scene_text)], (first, text, then))
        self.assertEqual(len(inputs), len(text.split("\n")[0].split(" ")) - 1)
        self.assertTrue(plain_sayings.breaches(scene, first, text, then, plain.read_world(scene, world.text), inputs),
                        (world.text, inputs, first, text, then))

    def check_breaking(self, scene_text, text, saying, many):
        scene = Scene(scene_text)
        script, then = Script(scene, text), Saying(scene, saying)
        self.check_told(scene_text, None, text, saying, breaking(script, then), many)
        self.assertIs(always(script, then), many is None)

    def check_breach(self, scene_text, first, text, then, many):
        scene = Scene(scene_text)
        told = Saying(scene, first), Script(scene, text), Saying(scene, then)
        self.check_told(scene_text, first, text, then, breach(*told), many)
        self.assertIs(keeps(*told), many is None)


class Always(Shown):

    def test_registers(self):
        for saying, many in [("a is a or a missing", None), ("a is a", 0), ("b missing", None), ("a missing", 1),
                             ("not a missing", 0), ("a ahead a one", 0), ("not a ahead a one", None)]:
            self.check_breaking(PLAIN, "takes a\ngives a", saying, many)
        self.check_breaking(PLAIN, "takes a b\ngives", "a is b or a ahead b one or b ahead a one", 0)
        self.check_breaking(PLAIN, "takes a b\ngives", "a is b or a ahead b one or b ahead a one or a missing or b missing",
                            None)
        self.check_breaking(PLAIN, "takes a b\ngives", "a is b or b missing or a missing", 2)

    def test_what_registers_hold_at_the_end(self):
        script = "takes a\nb = a\na = nothing\nc = next b one\ngives"
        for saying, many in [("a missing", None), ("b missing", 1), ("c missing", 2), ("c missing or b ahead c one", None),
                             ("not b is a", None), ("d missing", None)]:
            self.check_breaking(PLAIN, script, saying, many)

    def test_walks(self):
        script = "takes a\nb = next a one where it has done\ngives b"
        for saying, many in [("b missing or b has done and a ahead b one", None), ("b missing", 2), ("a ahead b one", 0),
                             ("not some x ( a ahead x one and x ahead b one and x has done )", None),
                             ("not some x ( a ahead x one and x ahead b one )", 3),
                             ("not b missing or all x ( not a ahead x one or not x has done )", None),
                             ("not b missing or all x ( not a ahead x one )", 2), ("all x ( not x has done )", 1)]:
            self.check_breaking(MARKED, script, saying, many)

    def test_deeds(self):
        gather = "takes\ngather one where it has done\ngives"
        order = "all x y ( not ( y has done and not x has done and x ahead y one ) )"
        self.check_breaking(MARKED, gather, order, None)
        self.check_breaking(MARKED, "takes\ngives", order, 2)
        self.check_breaking(MARKED, gather, "some x ( x has done )", 0)
        self.check_breaking(MARKED, "takes a\nmark a done\ngives", "a missing or some x ( x has done )", None)
        self.check_breaking(MARKED, "takes a\nmark a done\ngives", "all x ( x has done )", 1)
        self.check_breaking(MARKED, "takes a\nmark a done\ngives", "a missing or all x ( x has done )", 2)
        self.check_breaking(TWO, "takes\nsort one by two\ngives", AGREE, None)
        self.check_breaking(TWO, "takes\nsort one by two\nturn one\ngives", AGREE, 2)
        self.check_breaking(TWO, "takes\nsort one by two\nturn one\ngives", TURNED, None)
        self.check_breaking(PLAIN, "takes a b\nput a behind b one\ngives", "a missing or b missing or a is b or b ahead a one",
                            None)
        self.check_breaking(PLAIN, "takes a b\nput a behind b one\ngives", "not some x ( b ahead x one and x ahead a one )",
                            None)
        self.check_breaking(PLAIN, "takes a b\nswap a b one\ngives", "not some x ( b ahead x one and x ahead a one )", 3)

    def test_lots(self):
        script = "takes a\ngather one where it with a\ngives a"
        self.check_breaking(LOTS, script, "all x y ( not ( x with a and not y with a and y ahead x one ) )", None)
        self.check_breaking(LOTS, script, "all x y ( not ( x with a and not y with a and x ahead y one ) )", 2)
        self.check_breaking(LOTS, script, "all x y ( x with y )", 2)
        self.check_breaking(LOTS, script, "all x y ( x with y ) or some x y ( x with y and not x is y )", 2)

    def test_how_many_things_it_takes(self):
        self.check_breaking(PLAIN, "takes\ngives", "all x ( x missing )", 1)
        self.check_breaking(PLAIN, "takes\ngives", "all x y ( x is y )", 2)
        self.check_breaking(PLAIN, "takes a\ngives", "all x y ( x is y or x is a or y is a )", 2)
        self.check_breaking(PLAIN, "takes a\ngives", "a missing or all x y ( x is y or x is a or y is a )", 3)
        self.check_breaking(PLAIN, "takes a b\ngives", "a is b or a missing or b missing or all x y ( x is y or x is a or "
                            "y is a or x is b or y is b )", 4)
        self.check_breaking(TWO, "takes a\ngives", "all x y ( not ( x ahead a one and a ahead y one ) or x ahead y two )", 3)
        self.check_breaking(PLAIN, "takes a\nb = next a one\nc = next b one\ngives", "c missing or all x ( x is a or x is b "
                            "or x is c )", 4)

    def test_some_needs_few_things(self):
        self.check_breaking(PLAIN, "takes\ngives", "some x ( x is x )", 0)
        self.check_breaking(PLAIN, "takes a\ngives", "a missing or some x ( not x is a )", 1)
        self.check_breaking(PLAIN, "takes a\ngives", "a missing or some x ( x is a )", None)
        self.check_breaking(PLAIN, "takes a\ngives", "a missing or some x y ( x is a and not y is x )", 1)
        self.check_breaking(PLAIN, "takes\ngives", "not some x y ( not x is y )", 2)
        self.check_breaking(PLAIN, "takes\ngives", "not not all x y ( x is y )", 2)

    def test_three_blocks(self):
        saying = "all x ( x has done ) or all x ( not x has done ) or some x y ( x has done and not y has done )"
        self.check_breaking(MARKED, "takes\ngives", saying, None)
        self.check_breaking(MARKED, "takes\ngives", saying.replace("x has done and not", "x ahead y one and x has done and not"),
                            2)
        self.check_breaking(MARKED, "takes\ngather one where it has done\ngives",
                            saying.replace("x has done and not", "x ahead y one and x has done and not"), None)

    def test_the_script_of_a_walk(self):
        scene = Scene(TWO)
        script = Walk(scene, "+one -two").script()
        name, given = script.takes[0], script.gives[0]
        saying = Saying(scene, f"{given} missing or not {given} missing")
        self.assertTrue(always(script, saying))
        self.assertIs(type(breaking(script, Saying(scene, "all x ( not x is x )"))), tuple)
        self.assertEqual([len(name) > 0, keeps(saying, script, saying)], [True, True])


class Keeps(Shown):

    def test_registers_as_they_are_at_the_beginning_and_at_the_end(self):
        script = "takes a\nb = a\na = nothing\ngives b"
        for first, then, many in [("a missing", "b missing", None), ("not a missing", "b is b", None),
                                  ("not a missing", "a missing", None), ("b missing", "b missing", 1),
                                  ("not b missing", "not b missing", None), ("a is a", "a is a", 1)]:
            self.check_breach(PLAIN, first, script, then, many)

    def test_marks(self):
        script = "takes a\nunmark a done\ngives"
        some = "some x ( x has done )"
        self.check_breach(MARKED, some, script, some, 1)
        self.check_breach(MARKED, f"{some} and not a has done", script, some, None)
        self.check_breach(MARKED, "some x y ( x has done and y has done and not x is y )", script, some, None)
        self.check_breach(MARKED, "a has done", script, "a has done", 1)
        self.check_breach(MARKED, "all x ( x has done )", script, "a missing or not a has done", None)
        self.check_breach(MARKED, "all x ( x has done )", script, "all x ( x has done or x is a )", None)
        self.check_breach(MARKED, "all x ( not x has done )", script, "all x ( not x has done )", None)
        self.check_breach(MARKED, "all x ( x is a or x has done )", script, "all x ( x is a or x has done )", None)
        self.check_breach(MARKED, "some x ( x has done and not x is a )", script, "all x ( x is a or x has done )", 2)
        self.check_breach(MARKED, "some x ( x has done and not x is a )", script, "a missing or all x ( x is a or x has done )", 3)

    def test_rows(self):
        turn = "takes\nturn one\ngives"
        for first, then, many in [(AGREE, AGREE, 2), (AGREE, TURNED, None), (TURNED, AGREE, None), (TURNED, TURNED, 2),
                                  ("all x ( x is x )", AGREE, 2), ("all x y ( x is y )", AGREE, None),
                                  ("some x y ( x ahead y one and x ahead y two )", TURNED, 3),
                                  ("some x y ( x ahead y one and x ahead y two )", AGREE, 2)]:
            self.check_breach(TWO, first, turn, then, many)
        self.check_breach(TWO, AGREE, "takes a\nb = next a one\nswap a b one\nswap b a two\ngives", AGREE, None)
        self.check_breach(TWO, AGREE, "takes a\nb = next a one\nswap a b one\ngives", AGREE, 2)
        self.check_breach(TWO, AGREE, "takes a b\nput a behind b one\nput a behind b two\ngives", AGREE, None)
        self.check_breach(TWO, AGREE, "takes a b\nput a behind b one\nput a ahead b two\ngives", AGREE, 2)

    def test_what_needs_things_before_and_behind(self):
        """The first saying asks for two things that no run visits, the other one for two more."""
        some, none = "some x y ( x ahead y one and x has done and y has done )", "all x y ( x has done or y has done or x is y )"
        self.check_breach(MARKED, some, "takes\nturn one\ngives", none, 4)
        self.check_breach(LOTS, "some x y ( x with y and not x is y )", "takes\nturn one\ngives",
                          "not some x y ( x with y and x ahead y one ) or all x y ( x with y )", 3)
        self.check_breach(TWO, "some x y ( x ahead y one and y ahead x two )", "takes\nturn two\ngives", TURNED, 2)
        self.check_breach(TWO, "some x y ( x ahead y one and y ahead x two )", "takes\nturn two\ngives", AGREE, 3)

    def test_sayings_that_are_never_or_always_true(self):
        never = "some x ( x missing )"
        self.check_breach(PLAIN, never, "takes a\ngives", never, None)
        self.check_breach(PLAIN, "not " + never, "takes a\ngives", never, 0)
        self.check_breach(PLAIN, "a missing and not a missing", "takes a\ngives", "a missing", None)
        self.check_breach(MARKED, "all x ( x has done and not x has done )", "takes a\ngives", "a missing", None)

    def test_parts_that_play_no_part(self):
        """The rows that a script changes but never looks at, and those of the first saying alone."""
        self.check_breach(THREE, "all x y ( not x ahead y three or x ahead y two )", "takes a\nturn one\nsort three by one\ngives",
                          "all x y ( not x ahead y three or x ahead y two )", 2)
        self.check_breach(THREE, "all x y ( not x ahead y three or x ahead y two )", "takes a\nturn three\nsort one by two\ngives",
                          "a missing or some x ( x is a )", None)
        self.check_breach(FULL, "some x ( x has seen )", "takes a\nunmark a done\nturn two\ngives", "some x ( x has seen )", None)
        self.check_breach(FULL, "some x ( x has seen )", "takes a\nunmark a seen\nturn two\ngives", "some x ( x has seen )", 1)

    def test_up_to_the_bounds(self):
        """Five things for two rows, four for three rows or with a mark or lots, three for all other scenes."""
        self.check_breach(TWO, AGREE, "takes a\nturn one\nturn two\nswap a a one\ngives", AGREE, None)
        self.check_breach(TWO, "some x y ( x ahead y one and x ahead y two )", "takes a\nput a ahead a two\nturn one\ngives",
                          "all x y ( x ahead y one or x ahead y two or x is y )", 3)
        for line, part in [("row three", "x ahead y three"), ("mark done", "x has done"), ("lots", "not x with y")]:
            saying = f"all x y ( not x ahead y one or x ahead y two or {part} )"
            self.check_breach(f"{TWO}\n{line}", saying, "takes\nturn one\nturn two\nturn two\nturn one\ngives", saying, None)
        body = "x ahead y one and y ahead x two and x ahead y three and x has done and not y has seen and x with y"
        self.check_breach(FULL, f"not some x y ( {body} )", "takes\nturn one\nturn one\ngives", "all x ( x is x )", None)
        self.check_breaking(FULL, "takes a\nmark a done\nunmark a seen\ngives", f"not some x y ( {body} )", 2)


class Errors(unittest.TestCase):

    def test_other_scenes(self):
        one, two = Scene(PLAIN), Scene(TWO)
        for scenes in [(one, one, two), (one, two, one), (two, one, one), (one, two, two), (two, two, one), (two, one, two)]:
            told = Saying(scenes[0], "a missing"), Script(scenes[1], "takes a\ngives a"), Saying(scenes[2], "a missing")
            self.assertRaises(OtherScene, breach, *told)
            self.assertRaises(OtherScene, keeps, *told)
            if not scenes[1] == scenes[2]:
                self.assertRaises(OtherScene, breaking, *told[1:])
                self.assertRaises(OtherScene, always, *told[1:])

    def test_scenes_of_the_same_text(self):
        told = Saying(Scene(TWO), "a missing"), Script(Scene(TWO), "takes a\ngives a"), Saying(Scene(TWO), "a missing")
        self.assertEqual([keeps(*told), breach(*told), always(*told[1:])], [True, None, False])

    def test_refused_beyond_the_bounds(self):
        lines = "\n".join(["c = next a one"] * 58)
        script = Script(Scene(FULL), f"takes a b\n{lines}\ngives c")
        saying = Saying(Scene(TWO), "all x y ( x is y ) and all x y ( x is y ) and all x y ( x is y )")
        self.assertRaises(OtherScene, breaking, script, saying)
        self.assertRaises(OtherScene, breach, saying, script, Saying(Scene(FULL), "all x y ( x is y )"))

    def test_kinds_of_answers(self):
        scene = Scene(PLAIN)
        script, saying = Script(scene, "takes a\ngives a"), Saying(scene, "a missing")
        self.assertEqual([type(call) for call in [always(script, saying), keeps(saying, script, saying)]], [bool, bool])


class AgainstAllWorlds(Shown):
    """Scripts and sayings with all small worlds and all inputs tried."""

    def test_breaking_and_breach(self):
        source = random.Random(84)
        shown = {}
        for scene_text, most in BOUNDS.items():
            maker = Maker(source, scene_text)
            for _ in range(45):
                takes = source.randrange(min(most - 1, 2) + 1)
                text = maker.script(takes, 0, source.randrange(1, 6), source.randrange(most - takes + 1))
                left = most - plain_sayings.bound(text)
                maker.known = [*text.split("\n")[0].split(" ")[1:], "c"]
                first = made(maker, source.randrange(left + 1)) if source.randrange(2) else None
                left -= plain_sayings.bound_names(first) if first else 0
                then = made(maker, left)
                if first and plain_sayings.bound_names(first) <= left and source.randrange(2):
                    then = first
                bound = plain_sayings.bound(text, then, *([first] if first else []))
                many = plain.fewest(maker.scene, bound, takes, lambda world, inputs: plain_sayings.breaches(
                    maker.scene, first, text, then, world, inputs))
                if first:
                    self.check_breach(scene_text, first, text, then, many)
                else:
                    self.check_breaking(scene_text, text, then, many)
                shown[many] = shown.get(many, 0) + 1
        self.assertGreater(min(shown[many] for many in (None, 0, 1, 2)), 5)


def made(maker, most):
    """A saying with at most eight parts."""
    while True:
        text = maker.saying(most)
        try:
            return Saying(Scene(maker.scene.text), text).text
        except BadSaying:
            pass


if __name__ == "__main__":
    unittest.main()
