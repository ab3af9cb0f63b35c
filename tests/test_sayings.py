"""[7], [13]: which sayings are bare, and whether sayings are true in a world."""

import itertools
import random
import unittest

from seatedtwice.errors import BadSaying, NoThing, OtherScene
from seatedtwice.sayings import Saying
from seatedtwice.scenes import Scene
from seatedtwice.worlds import World
from tests import plain, plain_sayings
from tests.made import Maker

PLAIN = Scene("row one")
FULL = Scene("row one\nrow two\nmark done\nmark seen\nlots")
WORLD = World(FULL, "row one p q r\nrow two r q p\nmark done p q\nmark seen\nlot p r\nlot q")
EMPTY = World(FULL, "row one\nrow two\nmark done\nmark seen")


def holds(text, registers=None, world=WORLD):
    return Saying(world.scene, text).holds(world, registers or {})


class Bare(unittest.TestCase):

    def test_bare_ones(self):
        for text in ["all x ( x missing )", "some x y ( x is y )", "not all x ( x has done )",
                     "all x ( x has done or x has seen ) and ( some y ( y has seen ) or not some x z ( x with z ) )",
                     "all a ( a is a )", "all x y ( x missing )", "all one two ( one ahead two two )"]:
            self.assertIs(Saying(FULL, text).is_bare, True, text)

    def test_others(self):
        for text in ["a missing", "not a is b", "all x ( a missing )", "all x ( x is a )", "some x ( a is x )",
                     "all x ( x has done ) and a missing", "a missing or all x ( x has done )",
                     "all x ( x has done ) and all y ( x has done )", "all x ( x has done ) and x has done",
                     "some x y ( x is y and z with y )", "all x ( x has done and a has done )"]:
            self.assertIs(Saying(FULL, text).is_bare, False, text)

    def test_against_a_plain_reading(self):
        source = random.Random(82)
        maker = Maker(source, FULL.text)
        told = {True: 0, False: 0}
        for _ in range(400):
            maker.known = ["a", "x"]
            text = maker.saying(source.randrange(1, 6), source.randrange(2) == 0)
            saying = made(FULL, text)
            if saying is not None:
                self.assertIs(saying.is_bare, plain_sayings.is_bare(text), text)
                told[saying.is_bare] += 1
        self.assertGreater(min(told.values()), 100)


class Holds(unittest.TestCase):

    def test_it_tells_a_bool(self):
        self.assertIs(holds("a missing"), True)
        self.assertIs(holds("not a missing"), False)
        for text in ["all x ( x has done )", "some x ( x has done )", "some x y ( x with y )", "a is a", "a with b",
                     "a ahead b one or a has done"]:
            self.assertIn(holds(text, {"a": "p", "b": "r"}), [True, False])
            self.assertIs(type(holds(text, {"a": "p", "b": "r"})), bool)

    def test_registers_that_are_missing_or_hold_none(self):
        for registers in [{}, {"a": None}, {"b": "p"}, {"a": None, "b": "q"}]:
            self.assertTrue(holds("a missing", registers))
            for part in ["a is a", "a has done", "a with a", "a ahead b one", "b ahead a one", "a is b", "b with a"]:
                self.assertFalse(holds(part, registers), part)
                self.assertTrue(holds("not " + part, registers), part)

    def test_parts(self):
        for text, want in [("a ahead b one", True), ("b ahead a one", False), ("a ahead b two", False), ("a ahead a one", False),
                           ("b ahead a two", True), ("a is b", False), ("a is a", True), ("a has done", True),
                           ("b has done", False), ("a has seen", False), ("a with b", True), ("a with c", False),
                           ("c with c", True), ("a missing", False), ("d missing", True)]:
            self.assertIs(holds(text, {"a": "p", "b": "r", "c": "q"}), want, text)

    def test_others_play_no_part(self):
        registers = {"z": "q", "all": "p", "it": "p", "": "r", "x": "q"}
        self.assertTrue(holds("a missing and some x ( x has done and x ahead a one or x ahead x two or x is x )", registers))
        self.assertTrue(holds("all x ( x missing or not a is x )", registers))

    def test_all_and_some(self):
        for text, want in [("all x ( x has done )", False), ("some x ( x has done )", True), ("some x ( x has seen )", False),
                           ("all x ( x has done or x has seen or x is a )", True), ("not some x ( x missing )", True),
                           ("all x ( not x has seen )", True), ("some x ( not x has done and x is a )", True),
                           ("some x ( x ahead a one and a ahead x one )", False)]:
            self.assertIs(holds(text, {"a": "r"}), want, text)

    def test_two_names_and_pairs_of_a_thing_with_itself(self):
        for text, want in [("all x y ( x is y )", False), ("some x y ( x is y )", True), ("all x y ( not x is y )", False),
                           ("all x y ( x ahead y one or y ahead x one )", False),
                           ("all x y ( x ahead y one or y ahead x one or x is y )", True),
                           ("all x y ( x ahead y one or x ahead y two or x is y )", True),
                           ("some x y ( x ahead y one and x ahead y two )", False), ("some x y ( x ahead x one )", False),
                           ("some x y ( x with y and not x is y )", True), ("all x y ( x with x )", True),
                           ("all x y ( not x with y or x is y or x ahead y two or y ahead x two )", True),
                           ("some x y ( x has done and y has done and x ahead y two )", True),
                           ("some x y ( y has done and not x has done and x ahead y one )", False)]:
            self.assertIs(holds(text), want, text)

    def test_a_bound_name_with_the_name_of_a_register(self):
        self.assertTrue(holds("all a ( a has done or a has seen or a is b )", {"a": "p", "b": "r"}))
        self.assertFalse(holds("all a ( a is b )", {"a": "p", "b": "p"}))
        # Outside of the block, and behind it, the register is meant.
        self.assertTrue(holds("a is b and some a ( not a is b ) and a is b", {"a": "p", "b": "p"}))
        self.assertTrue(holds("a missing and some a ( not a missing ) and a missing and not some a ( a missing )"))
        self.assertTrue(holds("some a b ( a ahead b one and not a is b ) and a is b", {"a": "p", "b": "p"}))
        self.assertTrue(holds("some x ( x is a ) and some a x ( x has done and not a has done ) and x is b and a is b",
                              {"a": "q", "b": "q", "x": "q"}))

    def test_without_things(self):
        for text, want in [("all x ( x missing )", True), ("some x ( x is x )", False), ("all x y ( not x is x )", True),
                           ("some x y ( not x missing )", False), ("not some x ( x is x )", True), ("a missing", True),
                           ("a is a", False), ("all x ( a is a )", True)]:
            self.assertIs(holds(text, {}, EMPTY), want, text)
            self.assertIs(holds(text, {"a": None}, EMPTY), want, text)

    def test_what_binds_more_tightly(self):
        some, none = "some x ( x has done )", "some x ( x has seen )"
        for text, want in [(f"{some} or {some} and {none}", True), (f"( {some} or {some} ) and {none}", False),
                           (f"not {none} and {some}", True), (f"not ( {none} or {some} )", False),
                           (f"not {none} and not {some}", False), (f"not {some} or {some}", True)]:
            self.assertIs(holds(text), want, text)

    def test_what_is_handed_in_stays(self):
        registers = {"a": "p", "b": None}
        saying = Saying(FULL, "all a ( a is a ) and some b x ( b ahead x one ) and a is a")
        self.assertTrue(saying.holds(WORLD, registers))
        self.assertEqual(registers, {"a": "p", "b": None})
        self.assertEqual(WORLD.text, "row one p q r\nrow two r q p\nmark done p q\nmark seen\nlot p r\nlot q")

    def test_against_a_plain_reading(self):
        source = random.Random(83)
        told = {True: 0, False: 0}
        for scene_text in ["row one", "row one\nrow two", "row one\nmark done", "row one\nlots", FULL.text]:
            maker = Maker(source, scene_text)
            for _ in range(300):
                maker.known = ["a", "b", "x"]
                text = maker.saying(source.randrange(6))
                saying = made(Scene(scene_text), text)
                if saying is None:
                    continue
                world = maker.world(source.randrange(5))
                things = [None, *world.split("\n")[0].split(" ")[2:]]
                for _ in range(4):
                    registers = {name: source.choice(things) for name in source.sample(["a", "b", "x", "z"], 3)}
                    want = plain_sayings.is_true(plain.read_world(maker.scene, world), registers, text.split(" "))
                    self.assertIs(saying.holds(World(Scene(scene_text), world), registers), want, (world, text, registers))
                    told[want] += 1
        self.assertGreater(min(told.values()), 1500)


class Errors(unittest.TestCase):

    def check(self, saying, world, registers, name):
        with self.assertRaises(NoThing) as caught:
            saying.holds(world, registers)
        self.assertEqual(caught.exception.name, name)

    def test_values_that_are_no_things(self):
        saying = Saying(FULL, "a is b")
        for values in itertools.permutations(["p", "zz", "b", None]):
            self.check(saying, WORLD, dict(zip(["a", "b", "c", "d"], values)), "b")
        self.check(saying, WORLD, {"a": ""}, "")
        self.check(saying, WORLD, {"c": "one", "a": "p"}, "one")
        self.check(saying, WORLD, {"it": "x", "c": "P"}, "P")
        self.check(Saying(FULL, "all x ( x is x )"), EMPTY, {"a": "p"}, "p")

    def test_ahead_of_another_scene(self):
        saying = Saying(PLAIN, "a is b")
        self.check(saying, WORLD, {"a": "x", "b": "p"}, "x")
        self.assertRaises(OtherScene, saying.holds, WORLD, {"a": "p"})
        self.assertRaises(OtherScene, saying.holds, WORLD, {})
        self.assertTrue(Saying(Scene(FULL.text), "a is b").holds(WORLD, {"a": "p", "b": "p"}))


def made(scene, text):
    """The saying, or None if it has more than eight parts or something else is wrong with it."""
    try:
        return Saying(scene, text)
    except BadSaying:
        return None


if __name__ == "__main__":
    unittest.main()
