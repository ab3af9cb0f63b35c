"""[15] and the interface's part seatedtwice/kept.py: which sayings some buttons keep, and why others are left out."""

import random
import unittest

from seatedtwice.errors import BadSaying, NotBare, OtherScene
from seatedtwice.halls import Hall
from seatedtwice.kept import kept_part, left_out
from seatedtwice.sayings import Saying, always
from seatedtwice.scenes import Scene
from seatedtwice.scripts import Script
from seatedtwice.walks import Walk
from seatedtwice.worlds import World
from tests import plain, plain_sayings
from tests.made import Maker

PLAIN = "row one"
TWO = "row one\nrow two"
THREE = "row one\nrow two\nrow three"
MARKED = "row one\nmark done"
LOTS = "row one\nlots"
SEEN = "row one\nmark done\nmark seen"
FULL = "row one\nrow two\nrow three\nmark done\nmark seen\nlots"

BOUNDS = {PLAIN: 5, TWO: 4, THREE: 3, MARKED: 4, LOTS: 4, TWO + "\nmark done": 3, TWO + "\nlots": 3, SEEN: 3, FULL: 2}

MARK, UNMARK = "takes a\nmark a done\ngives", "takes a\nunmark a done\ngives"
GATHER, TURN = "takes\ngather one where it has done\ngives", "takes\nturn one\ngives"
ANY, ALL, NONE = "some x ( x has done )", "all x ( x has done )", "all x ( not x has done )"
ORDER = "all x y ( not ( y has done and not x has done and x ahead y one ) )"
AGREE = "all x y ( not x ahead y one or x ahead y two )"
TURNED = "all x y ( not x ahead y one or y ahead x two )"


class Kept(unittest.TestCase):

    def check(self, scene_text, buttons, sayings, want):
        """The greatest kept part is what is wanted, and each other saying is left out for a reason that is told."""
        scene = Scene(scene_text)
        scripts, made = [Script(scene, text) for text in buttons], [Saying(scene, text) for text in sayings]
        told = kept_part(scripts, made)
        self.assertIs(type(told), list)
        self.assertEqual(told, want, (buttons, sayings))
        self.assertEqual(kept_part(tuple(scripts), tuple(made)), want)
        self.check_reasons(scene_text, buttons, sayings, left_out(scripts, made), want)

    def check_reasons(self, scene_text, buttons, sayings, told, want):
        scene = plain.Scene(scene_text)
        self.assertIs(type(told), list)
        gone = []
        for reason in told:
            self.assertIs(type(reason), tuple)
            index, button, world, inputs = reason
            self.assertEqual([type(index), type(button), type(world), type(inputs)], [int, int, World, tuple])
            self.assertEqual([world.text, world.scene], [world.form(), Scene(scene_text)])
            before = plain.read_world(scene, world.text)
            for other, saying in enumerate(sayings):
                if other not in gone:
                    self.assertTrue(plain_sayings.is_true(before, {}, saying.split(" ")), (saying, world.text))
            behind = plain.Run(scene, buttons[button], before, inputs).world
            self.assertFalse(plain_sayings.is_true(behind, {}, sayings[index].split(" ")), (sayings[index], world.text))
            gone.append(index)
        self.assertEqual(sorted(gone + want), list(range(len(sayings))))


class Parts(Kept):

    def test_one_button(self):
        for button, saying, is_kept in [(MARK, ANY, True), (UNMARK, ANY, False), (UNMARK, NONE, True), (MARK, NONE, False),
                                        (MARK, ALL, True), (UNMARK, ALL, False), (GATHER, ORDER, True), (MARK, ORDER, False),
                                        (TURN, ORDER, False), (TURN, ANY, True), (TURN, ALL, True)]:
            self.check(MARKED, [button], [saying], [0] if is_kept else [])

    def test_more_buttons(self):
        self.check(MARKED, [MARK, UNMARK], [ANY, ALL], [])
        self.check(MARKED, [MARK, GATHER, TURN], [ANY, "some x ( not x has done )"], [0])
        self.check(MARKED, [GATHER, GATHER], [ORDER, ANY], [0, 1])
        self.check(MARKED, [GATHER, TURN], [ORDER, ANY], [1])
        self.check(MARKED, [GATHER, MARK], [ORDER, ANY], [1])

    def test_no_sayings(self):
        self.check(MARKED, [MARK], [], [])
        self.check(FULL, ["\n".join(["takes a b", *["c = next a one"] * 58, "gives c"])], [], [])

    def test_the_same_saying_twice(self):
        self.check(MARKED, [MARK], [ANY, ANY], [0, 1])
        self.check(MARKED, [UNMARK], [ANY, ANY], [])

    def test_sayings_that_are_never_true_at_once(self):
        self.check(MARKED, [MARK, UNMARK], [ANY, NONE], [0, 1])
        self.check(MARKED, [MARK, UNMARK], [ALL, "some x ( not x has done )"], [0, 1])
        self.check(PLAIN, ["takes a b\nswap a b one\ngives"], ["some x ( x missing )"], [0])
        self.check(MARKED, [UNMARK], [ANY, ALL, "some x ( x missing )"], [0, 1, 2])

    def test_sayings_that_only_others_keep(self):
        """Alone it is broken; beside the other one it is not."""
        first, second = "all x ( not x has done )", "all x ( not x has seen )"
        spread = "takes a\nif a has done\nmark a seen\nend\ngives"
        self.check(SEEN, [spread], [second], [])
        self.check(SEEN, [spread], [second, first], [0, 1])
        self.check(SEEN, [spread], [first], [0])

    def test_sayings_that_are_broken_only_when_another_one_is_left_out(self):
        first, second = "all x ( not x has done )", "all x ( not x has seen )"
        spread = "takes a\nif a has done\nmark a seen\nend\ngives"
        self.check(SEEN, [spread, MARK], [second, first], [])
        self.check(SEEN, [MARK, spread], [first, second], [])
        self.check(SEEN, [MARK, spread], [second, ANY], [1])
        ring = ["takes a\nif a has done\nmark a seen\nend\ngives", "takes a\nif a has seen\nmark a done\nend\ngives"]
        self.check(SEEN, ring, [first, second], [0, 1])
        self.check(SEEN, ring, [first], [])
        self.check(SEEN, ring + ["takes a\nmark a seen\ngives"], [first, second, "some x ( x is x )"], [2])

    def test_rows(self):
        turn_two = "takes\nturn two\ngives"
        self.check(TWO, [TURN], [AGREE], [])
        self.check(TWO, ["takes\nturn one\nturn two\ngives"], [AGREE, TURNED], [0, 1])
        self.check(TWO, ["takes\nturn one\nturn two\ngives"], [TURNED], [0])
        self.check(TWO, [TURN, turn_two], [f"{AGREE} or {TURNED}"], [0])
        self.check(TWO, ["takes\nsort one by two\ngives"], [AGREE], [0])
        self.check(TWO, ["takes\nsort one by two\ngives"], [TURNED], [])
        self.check(TWO, ["takes a\nb = next a one\nswap a b one\nswap b a two\ngives"], [AGREE], [0])
        self.check(TWO, ["takes a\nb = next a one\nswap a b one\nswap b a two\ngives"], [TURNED], [0])
        self.check(TWO, ["takes a\nb = next a one\nswap a b one\ngives"], [TURNED], [])
        self.check(PLAIN, ["takes a\nb = next a one\nput a behind b one\ngives"],
                   ["all x y ( x is y or x ahead y one or y ahead x one )", "some x y ( not x is y )"], [0, 1])

    def test_lots(self):
        together, order = "all x y ( x with y )", "all x y ( x with y or x ahead y one )"
        self.check(LOTS, [TURN], [together], [0])
        self.check(LOTS, ["takes a\ngather one where it with a\ngives"], [together, order], [0, 1])
        self.check(LOTS, ["takes a\nb = next a one where it with a\nswap a b one\ngives"],
                   ["some x y ( x with y and not x is y )"], [0])

    def test_walks(self):
        first = "takes\na = first one\nmark a done\ngives a"
        some = "some x ( x has done )"
        self.check(MARKED, [first], [some, NONE], [0, 1])
        self.check(MARKED, [first], [NONE], [])
        self.check(MARKED, [first], ["all x y ( not x has done or y has done or x ahead y one )"], [0])
        self.check(MARKED, ["takes\na = first one where not it has done\nmark a done\ngives a"],
                   ["all x y ( not ( y has done and not x has done and x ahead y one ) )"], [0])
        self.check(MARKED, ["takes\na = last one where not it has done\nmark a done\ngives a"],
                   ["all x y ( not ( y has done and not x has done and x ahead y one ) )"], [])

    def test_the_script_of_a_walk(self):
        scene = Scene(TWO)
        self.assertEqual(kept_part([Walk(scene, "+one -two").script()], [Saying(scene, AGREE), Saying(scene, TURNED)]), [0, 1])

    def test_two_names_before_and_two_behind(self):
        some = "some x y ( x has done and not y has done )"
        self.check(MARKED, [MARK], [some], [])
        self.check(MARKED, [GATHER], [some, "all x y ( x has done or y has done or x is y )"], [0, 1])
        self.check(MARKED, [UNMARK], ["all x y ( x has done or y has done or x is y )"], [])
        self.check(MARKED, [MARK], ["all x y ( x has done or y has done or x is y )"], [0])

    def test_up_to_the_bounds(self):
        part = "not x ahead y one or x ahead y two or x ahead y three or x has done or y has seen or x with y"
        self.check(FULL, ["takes a\nmark a done\ngives"], [f"all x y ( {part} )"], [0])
        self.check(FULL, ["takes a\nunmark a done\ngives"], [f"all x y ( {part} )"], [])
        self.check(TWO, ["takes a\nturn one\nturn two\ngives"], [f"{AGREE} and {AGREE}"], [0])
        self.check(TWO, ["takes a\nturn one\ngives"], [AGREE, TURNED], [0, 1])
        self.check(THREE, ["takes\nturn one\nturn two\ngives"], [AGREE, AGREE.replace("two", "three")], [0])
        self.check(THREE, ["takes\nturn one\nturn two\nturn three\ngives"], [AGREE, AGREE.replace("two", "three")], [0, 1])


class Handed(unittest.TestCase):

    def test_the_lists_stay(self):
        scene = Scene(MARKED)
        buttons = [Script(scene, MARK), Script(scene, GATHER)]
        sayings = [Saying(scene, ORDER), Saying(scene, ANY)]
        copies = [list(buttons), list(sayings)]
        told = kept_part(buttons, sayings)
        reasons = left_out(buttons, sayings)
        self.assertEqual([told, [reason[:2] for reason in reasons]], [[1], [(0, 0)]])
        told.append(7)
        reasons.clear()
        self.assertEqual([kept_part(buttons, sayings), len(left_out(buttons, sayings))], [[1], 1])
        self.assertTrue(all(one is two for one, two in zip(buttons + sayings, copies[0] + copies[1])))
        self.assertEqual([len(buttons), len(sayings)], [2, 2])

    def test_the_example_of_the_interface(self):
        scene = Scene("row one\nmark done")
        gather, mark = Script(scene, "takes\ngather one where it has done\ngives"), Script(scene, "takes a\nmark a done\ngives")
        order = Saying(scene, "all x y ( not ( y has done and not x has done and x ahead y one ) )")
        some = Saying(scene, "some x ( x has done )")
        self.assertEqual([always(gather, order), always(gather, some), kept_part([gather, mark], [order, some])],
                         [True, False, [1]])


class Errors(unittest.TestCase):

    def test_not_bare(self):
        scene, other = Scene(MARKED), Scene(TWO)
        bare, free = Saying(scene, ANY), Saying(scene, "all x ( x is a )")
        script = Script(scene, MARK)
        for sayings, index in [([free], 0), ([bare, free], 1), ([bare, free, bare, free], 1), ([bare, bare, free], 2)]:
            for call in [kept_part, left_out]:
                for buttons in [[script], [script, Script(other, TURN)], [Script(other, TURN)]]:
                    with self.assertRaises(NotBare) as caught:
                        call(buttons, sayings)
                    self.assertEqual(caught.exception.index, index)

    def test_other_scenes(self):
        scene, other = Scene(MARKED), Scene(TWO)
        one, two = Script(scene, MARK), Script(other, TURN)
        bare = Saying(scene, ANY)
        for call in [kept_part, left_out]:
            for buttons, sayings in [([one, two], [bare]), ([two, one], [bare]), ([two], [bare]), ([one], [Saying(other, AGREE)]),
                                     ([one], [bare, Saying(other, AGREE)]), ([one, two], []), ([one, one, two], [bare])]:
                self.assertRaises(OtherScene, call, buttons, sayings)
            self.assertEqual(len(call([Script(Scene(MARKED), MARK)], [bare])), 1 if call is kept_part else 0)

    def test_refused_beyond_the_bounds(self):
        scene = Scene(FULL)
        script = Script(scene, "\n".join(["takes a b", *["c = next a one"] * 58, "gives c"]))
        large = Saying(scene, "all x y ( x is y ) and all x y ( x is y ) and all x y ( x is y )")
        self.assertRaises(NotBare, kept_part, [script], [large, large, Saying(scene, "a missing")])
        self.assertRaises(OtherScene, left_out, [script], [large, Saying(Scene(TWO), AGREE)])


class AgainstAllWorlds(Kept):
    """All parts are tried, in all small worlds and with all inputs."""

    def test_kept_parts(self):
        source = random.Random(85)
        shown = {}
        for scene_text, most in BOUNDS.items():
            maker = Maker(source, scene_text)
            for _ in range(40):
                takes = source.choice([0, 1]) if most > 2 else 0
                walks = source.choice([0, 0, 1]) if takes + 2 < most else 0
                buttons = [maker.script(source.randrange(takes + 1), 0, source.randrange(1, 4), walks) if source.randrange(3)
                           else deeds(maker, takes) for _ in range(source.choice([1, 1, 2, 3]))]
                left = most - max(plain_sayings.bound(button) for button in buttons)
                sayings = []
                while left and (not sayings or source.randrange(4)):
                    sayings.append(bare(maker, left, 20))
                    left -= plain_sayings.bound_names(sayings[-1])
                want = plain_sayings.kept_part(maker.scene, buttons, sayings)
                self.check(scene_text, buttons, sayings, want)
                told = len(want) > 0, len(want) < len(sayings)
                shown[told] = shown.get(told, 0) + 1
        self.assertGreater(min(shown[True, False], shown[False, True], shown[True, True] * 3), 20, shown)

    def test_what_is_kept_and_true_once_stays_true_in_a_hall(self):
        source = random.Random(86)
        pressed = 0
        for scene_text, most in [(TWO, 5), (MARKED, 4), (LOTS, 4), (SEEN, 3), (TWO + "\nmark done", 4)]:
            maker = Maker(source, scene_text)
            scene = Scene(scene_text)
            for _ in range(30):
                buttons = [Script(scene, maker.script(1, 0, source.randrange(1, 4), 0)) for _ in range(2)]
                sayings = [Saying(scene, bare(maker, min(most - 1, 2))) for _ in range((most - 1) // 2)]
                kept = kept_part(buttons, sayings)
                hall = Hall(World(scene, maker.world(5)))
                if not all(sayings[index].holds(hall.world, {}) for index in kept):
                    continue
                hall["one"], hall["two"] = buttons
                for at, index in enumerate(kept):
                    hall.add_guard("ab"[at], sayings[index])
                for _ in range(25):
                    hall.press(source.choice(["one", "two"]), maker.inputs(hall.world.text, 1))
                    pressed += len(kept)
        self.assertGreater(pressed, 500)


def deeds(maker, takes):
    """A script that does nothing but deeds."""
    maker.known = ["a"]
    return "\n".join([" ".join(["takes", *"a"[:takes]]), *[maker.deed() for _ in range(maker.random.randrange(1, 4))], "gives"])


def bare(maker, most, tries=1):
    """A bare saying with at most eight parts, if one is found in so many tries one that is not all one for two things."""
    while True:
        maker.known = []
        text = maker.saying(most, True)
        try:
            Saying(Scene(maker.scene.text), text)
        except BadSaying:
            continue
        tries -= 1
        worlds = plain.all_worlds(maker.scene, 2)
        if tries <= 0 or len({plain_sayings.is_true(world, {}, text.split(" ")) for world in worlds}) == 2:
            return text


if __name__ == "__main__":
    unittest.main()
