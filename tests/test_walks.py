"""[16], [17] and the interface's part seatedtwice/walks.py: plain walks."""

import itertools
import random
import unittest

from seatedtwice.cases import cases
from seatedtwice.compare import alike, beyond, is_within
from seatedtwice.errors import BadWalk, NoThing, OtherScene
from seatedtwice.scenes import Scene
from seatedtwice.scripts import Script
from seatedtwice.walks import Walk, walk_parting
from seatedtwice.worlds import World
from tests import plain, plain_walks
from tests.made import Maker

ONE = Scene("row one")
TWO = Scene("row one\nrow two")
FULL = Scene("row one\nrow two\nrow three\nmark done\nmark seen\nlots")
WORLD = World(TWO, "row one p q r s\nrow two s q p r")


def steps(source, scene, many):
    return [source.choice("+-") + source.choice(scene.rows) for _ in range(many)]


def walk(scene, words):
    return Walk(scene, " ".join(words))


def back(word):
    return {"+": "-", "-": "+"}[word[0]] + word[1:]


class Reading(unittest.TestCase):

    def check(self, text, index=None, scene=FULL):
        with self.subTest(text[:100], scene=scene.text):
            if index is None:
                told = Walk(scene, text)
                self.assertEqual([told.text, told.scene], [text, scene])
            else:
                with self.assertRaises(BadWalk) as caught:
                    Walk(scene, text)
                self.assertEqual(caught.exception.index, index)

    def test_good_ones(self):
        for text in ["", "+one", "-three", "+one -one", "+one +one +two -three -two", " ".join(["-two"] * 300)]:
            self.check(text)
        self.assertIs(Walk(FULL, "+one").scene, FULL)

    def test_words_that_are_wrong(self):
        for text, index in [("one", 0), ("+", 0), ("-", 0), ("+four", 0), ("+one two", 1), ("+one + two", 1), ("++one", 0),
                            ("+-one", 0), ("+done", 0), ("-seen", 0), ("+lots", 0), ("+One", 0), ("+one -two +", 2),
                            ("+one, -two", 0), ("+one\n-two", 0), ("+one\n", 0), ("\n", 0), ("+one -two\n", 1), ("*one", 0),
                            ("+one -done +four", 1), ("+row", 0), ("+onetwo", 0), ("+on", 0), ("+ one", 0)]:
            self.check(text, index)
        self.check("+two", 0, ONE)
        self.check("+one -two", 1, ONE)

    def test_empty_words(self):
        for text, index in [(" ", 0), (" +one", 0), ("+one ", 1), ("+one  -two", 1), ("  ", 0), ("+one -two  ", 2)]:
            self.check(text, index)

    def test_three_hundred_steps_and_more(self):
        for word in ["+one", "-three"]:
            self.check(" ".join([word] * 300))
            self.check(" ".join([word] * 301), 300)
            self.check(" ".join([word] * 400), 300)
        self.check(" ".join(["+one"] * 300 + ["four"]), 300)
        self.check(" ".join(["+one"] * 299 + ["four", "+one"]), 299)
        self.check(" ".join(["+one"] * 300) + " ", 300)


class At(unittest.TestCase):

    def test_steps(self):
        for text, want in [("", "pqrs"), ("+one", "qrs-"), ("-one", "-pqr"), ("+two", "rp-q"), ("-two", "qs" + "p-"),
                           ("+one +two", "p-q-"), ("+one -one", "pqr-"), ("-one +one", "-qrs"), ("+two -one", "qr".replace(
                               "qr", "q--p")), ("+one +one +one", "s---"), ("+one +one +one +one", "----")]:
            told = [Walk(TWO, text).at(WORLD, thing) for thing in "pqrs"]
            self.assertEqual(told, [plain_walks.at(plain.read_world(plain.Scene(TWO.text), WORLD.text), text.split(), thing)
                                    for thing in "pqrs"], text)
            self.assertEqual("".join(thing or "-" for thing in told), want, text)

    def test_one_thing_and_none(self):
        world = World(TWO, "row one p\nrow two p")
        self.assertEqual([Walk(TWO, text).at(world, "p") for text in ["", "+one", "-two", "+one -one"]], ["p", None, None, None])
        for text in ["", "+one"]:
            with self.assertRaises(NoThing) as caught:
                Walk(TWO, text).at(World(TWO, "row one\nrow two"), "p")
            self.assertEqual(caught.exception.name, "p")

    def test_no_things(self):
        for name in ["t", "", "one", "P", "p q", "pp"]:
            with self.assertRaises(NoThing) as caught:
                Walk(TWO, "+one").at(WORLD, name)
            self.assertEqual(caught.exception.name, name)
            self.assertRaises(NoThing, Walk(ONE, "+one").at, WORLD, name)

    def test_another_scene(self):
        self.assertRaises(OtherScene, Walk(ONE, "+one").at, WORLD, "p")
        self.assertRaises(OtherScene, Walk(FULL, "").at, WORLD, "p")
        self.assertEqual(Walk(Scene(TWO.text), "+one").at(WORLD, "p"), "q")

    def test_against_a_plain_reading(self):
        source = random.Random(91)
        given = 0
        for scene in [ONE, TWO, FULL]:
            maker = Maker(source, scene.text)
            for _ in range(150):
                text = maker.world(source.randrange(1, 9))
                words = steps(source, scene, source.randrange(9))
                for thing in text.split("\n")[0].split(" ")[2:]:
                    want = plain_walks.at(plain.read_world(maker.scene, text), words, thing)
                    self.assertEqual(walk(scene, words).at(World(scene, text), thing), want)
                    given += want is not None and len(words) > 2
        self.assertGreater(given, 150)

    def test_long_walks(self):
        things = [f"x{one}{two}" for one in "abcdefghijklmnopqrst" for two in "bcdfghjklmnpqrs"]
        world = World(ONE, "row one " + " ".join(things))
        self.assertEqual(Walk(ONE, " ".join(["+one"] * 299)).at(world, things[0]), things[299])
        self.assertIs(Walk(ONE, " ".join(["+one"] * 300)).at(world, things[0]), None)
        self.assertEqual(Walk(ONE, " ".join(["+one", "-one"] * 150)).at(world, things[7]), things[7])


class Made(unittest.TestCase):

    def check(self, told, scene, words):
        self.assertIs(type(told), Walk)
        self.assertEqual([told.text, told.scene], [" ".join(words), scene])
        self.assertEqual([told.places(), told.final()], [plain_walks.places(words), " ".join(plain_walks.cancelled(words))])
        self.assertTrue(told == walk(scene, words))

    def test_plus(self):
        for one, two in itertools.product([[], ["+one"], ["-one", "+two"], ["+two", "+two", "-one"]], repeat=2):
            u, v = walk(TWO, one), walk(TWO, two)
            self.check(u + v, TWO, one + two)
            self.assertEqual([u.text, v.text], [" ".join(one), " ".join(two)])

    def test_back(self):
        for words in [[], ["+one"], ["-one", "+two"], ["+two", "+two", "-one"], ["+one", "-one"]]:
            u = walk(TWO, words)
            self.check(~u, TWO, [back(word) for word in reversed(words)])
            self.assertEqual([(~~u).text, u.text], [u.text, " ".join(words)])

    def test_both(self):
        u, v = Walk(TWO, "+one -two"), Walk(TWO, "-one")
        self.assertEqual([(~(u + v)).text, (~v + ~u).text, (u + ~u).text, (u + u + u).text],
                         ["+one +two -one"] * 2 + ["+one -two +two -one", "+one -two +one -two +one -two"])
        self.assertEqual([(u + ~u).final(), (u + v + ~v + ~u).final()], ["", ""])

    def test_what_they_give(self):
        source = random.Random(92)
        world = World(TWO, Maker(source, TWO.text).world(7))
        for _ in range(200):
            u, v = [walk(TWO, steps(source, TWO, source.randrange(4))) for _ in range(2)]
            for thing in world["one"]:
                there = u.at(world, thing)
                self.assertEqual((u + v).at(world, thing), None if there is None else v.at(world, there))
                self.assertEqual((u + ~u).at(world, thing), None if there is None else thing)

    def test_three_hundred_steps_together(self):
        u = Walk(TWO, " ".join(["+one", "-two"] * 75))
        self.check(u + u, TWO, ["+one", "-two"] * 150)
        self.check(~(u + u), TWO, ["+two", "-one"] * 150)

    def test_somewhat_more_steps_together(self):
        u = Walk(ONE, " ".join(["+one"] * 160))
        told = u + u
        self.assertEqual([len(told.text.split(" ")), told.final(), len(told.places())], [320, " ".join(["+one"] * 320), 321])
        self.assertEqual([(~told).text, told > u + u, told == u + u], [" ".join(["-one"] * 320), False, True])

    def test_over_two_scenes(self):
        for u, v in [(Walk(ONE, ""), Walk(TWO, "")), (Walk(ONE, "+one"), Walk(TWO, "+one")), (Walk(FULL, ""), Walk(TWO, "+two"))]:
            for one, two in [(u, v), (v, u)]:
                with self.assertRaises(OtherScene):
                    one + two
        self.assertEqual((Walk(TWO, "+one") + Walk(Scene(TWO.text), "-two")).text, "+one -two")


class Comparing(unittest.TestCase):

    def check(self, u, v, within, beyond_it):
        """Whether u is a part of v, and v one of u."""
        self.assertEqual([u <= v, v >= u, v <= u, u >= v], [within, within, beyond_it, beyond_it], (u.text, v.text))
        self.assertEqual([u == v, v == u, u != v], [within and beyond_it] * 2 + [not (within and beyond_it)])
        self.assertEqual([u < v, v > u, v < u, u > v], [within and not beyond_it] * 2 + [beyond_it and not within] * 2)

    def check_parting(self, u, v, within):
        told = walk_parting(u, v)
        if within:
            self.assertIs(told, None)
            return
        self.assertIs(type(told), tuple)
        world, thing = told
        self.assertEqual([type(world), world.scene, type(thing), thing in world], [World, u.scene, str, True])
        read = plain.read_world(plain.Scene(u.scene.text), world.text)
        end = plain_walks.at(read, u.text.split(), thing)
        self.assertIsNotNone(end, (u.text, v.text))
        self.assertNotEqual(plain_walks.at(read, v.text.split(), thing), end, (u.text, v.text))
        self.assertEqual([u.at(world, thing), v.at(world, thing) == end], [end, False])

    def test_some(self):
        for one, two, within, beyond_it in [
                ("", "", True, True), ("+one", "+one", True, True), ("+one", "-one", False, False), ("+one", "+two", False, False),
                ("+one -one", "", True, False), ("-one +one", "", True, False), ("+one -one", "-one +one", False, False),
                ("+one -one +one", "+one", True, True), ("+one +one -one", "+one", True, False),
                ("-one +one +one", "+one", True, False), ("+one +two -two -one", "+one -one", True, False),
                ("+one -one +two -two", "+two -two +one -one", True, True), ("+one +one", "+one", False, False),
                ("+one +one -one -one", "-one +one", False, False), ("+one -one +one -one", "+one -one", True, True),
                ("+one +two -one -two", "", False, False), ("+two -two +two", "+two -two +two -two +two", True, True),
                ("+one +one -one -one +one", "+one +one -one", True, True)]:
            u, v = Walk(TWO, one), Walk(TWO, two)
            self.check(u, v, within, beyond_it)
            self.check_parting(u, v, within)
            self.check_parting(v, u, beyond_it)

    def test_kinds_of_answers(self):
        u, v = Walk(TWO, "+one"), Walk(TWO, "+one -one +one")
        self.assertEqual([type(told) for told in [u == v, u <= v, u < v, u >= v, u > v]], [bool] * 5)

    def test_over_two_scenes(self):
        for u, v in [(Walk(ONE, ""), Walk(TWO, "")), (Walk(ONE, "+one"), Walk(TWO, "+one")), (Walk(FULL, "+two"), Walk(TWO, ""))]:
            for one, two in [(u, v), (v, u)]:
                self.assertIs(one == two, False)
                self.assertIs(one != two, True)
                for call in [lambda: one <= two, lambda: one < two, lambda: one >= two, lambda: one > two]:
                    self.assertRaises(OtherScene, call)
                self.assertRaises(OtherScene, walk_parting, one, two)
        self.check(Walk(TWO, "+one"), Walk(Scene(TWO.text), "+one"), True, True)

    def test_beside_other_values(self):
        u = Walk(TWO, "+one")
        self.assertEqual([u == "+one", u == None, u != 3, u == TWO], [False, False, True, False])  # noqa: E711

    def test_all_short_walks(self):
        """All walks of at most three steps over two rows, against all small worlds."""
        words = ["+one", "-one", "+two", "-two"]
        scene = plain.Scene(TWO.text)
        told = [list(row) for many in range(4) for row in itertools.product(words, repeat=many)]
        source = random.Random(93)
        equal = 0
        for one in told:
            for two in source.sample(told, 12) + [row for row in told if plain_walks.cancelled(row) == plain_walks.cancelled(one)]:
                within, beyond_it = plain_walks.is_part(scene, one, two), plain_walks.is_part(scene, two, one)
                self.check(walk(TWO, one), walk(TWO, two), within, beyond_it)
                self.check_parting(walk(TWO, one), walk(TWO, two), within)
                equal += within and beyond_it and one != two
        self.assertGreater(equal, 5)

    def test_three_rows_with_marks_and_lots(self):
        scene = plain.Scene("row one\nrow two\nrow three")
        source = random.Random(94)
        shown = {}
        for _ in range(60):
            one = steps(source, FULL, source.randrange(4))
            two = list(one)
            word = source.choice(steps(source, FULL, 3))
            at = source.randrange(len(two) + 1)
            two[at:at] = [word, back(word)]
            if source.randrange(3) == 0:
                one = steps(source, FULL, 3)
            within, beyond_it = plain_walks.is_part(scene, one, two), plain_walks.is_part(scene, two, one)
            self.check(walk(FULL, one), walk(FULL, two), within, beyond_it)
            self.check_parting(walk(FULL, one), walk(FULL, two), within)
            self.check_parting(walk(FULL, two), walk(FULL, one), beyond_it)
            shown[within, beyond_it] = shown.get((within, beyond_it), 0) + 1
        self.assertGreater(min(shown[key] for key in [(False, True), (False, False), (True, True)]), 2)

    def test_long_walks(self):
        """They go far, come back and cross themselves; what they are to each other is told by their places and ends."""
        source = random.Random(95)
        shown = {}
        for scene in [ONE, TWO, FULL]:
            for _ in range(60):
                one = wandering(source, scene, 298)
                two = changed(source, scene, one)
                if source.randrange(2):
                    one, two = two, one
                mine, other = set(plain_walks.places(one)), set(plain_walks.places(two))
                same = plain_walks.cancelled(one) == plain_walks.cancelled(two)
                within, beyond_it = same and mine >= other, same and other >= mine
                u, v = walk(scene, one), walk(scene, two)
                self.check(u, v, within, beyond_it)
                self.check_parting(u, v, within)
                self.check_parting(v, u, beyond_it)
                shown[within, beyond_it] = shown.get((within, beyond_it), 0) + 1
        self.assertGreater(min(shown[key] for key in itertools.product([False, True], repeat=2)), 3, shown)

    def test_walks_of_three_hundred_steps(self):
        far = ["+one", "+two"] * 75
        u, v = walk(TWO, far + [back(word) for word in reversed(far)]), Walk(TWO, "")
        self.check(u, v, True, False)
        self.check_parting(v, u, False)
        u, v = Walk(ONE, " ".join(["+one"] * 300)), Walk(ONE, " ".join(["+one"] * 299))
        self.check(u, v, False, False)
        self.check_parting(u, v, False)
        self.check_parting(v, u, False)
        self.check_parting(u, Walk(ONE, " ".join(["-one"] * 300)), False)

    def test_what_leaves_the_places_and_comes_back(self):
        """The other walk leaves the places of the first one, and would come to its end if other things stood there."""
        for one, two in [("+one +one", "+two +one -two +one"), ("", "-one +two"), ("+one -two", "+one +one -two -one"),
                         ("+one", "+two -one +one -two +one"), ("+one +two", "+one -two +two +two"), ("-one", "+one -one -one"),
                         ("+one +two +one", "+one +two -one +one +one -one +one")]:
            self.check_parting(Walk(TWO, one), Walk(TWO, two), False)


def wandering(source, scene, many):
    """The words of a walk of about so many steps, which goes back now and then."""
    words = []
    while len(words) < many - 30:
        if words and source.randrange(3) == 0:
            last = words[-source.randrange(1, min(len(words), 25) + 1):]
            words += [back(word) for word in reversed(last)]
        else:
            words += [source.choice(steps(source, scene, 2))] * source.randrange(1, 6)
    return words


def changed(source, scene, words):
    """The words with a way there and back put in, or with a step put in, taken out or exchanged."""
    words = list(words)
    at = source.randrange(len(words) + 1)
    kind = source.randrange(8)
    way = steps(source, scene, source.randrange(1, 3))
    if kind < 4:
        # Often it goes where the walk has been or will be.
        way = words[at:at + 2] if source.randrange(2) else [back(word) for word in reversed(words[max(at - 2, 0):at])]
        words[at:at] = way + [back(word) for word in reversed(way)]
    elif kind == 4:
        words[at:at] = way
    elif kind == 5:
        words[at:at] = way + [back(word) for word in reversed(way)]
    elif kind == 6:
        del words[at:at + 1]
    else:
        words = words[:at] + words[at:][:len(words) // 2]
    return words[:300]


class Places(unittest.TestCase):

    def test_their_order(self):
        for text, want in [("", [""]), ("+one", ["", "+one"]), ("-one +one", ["", "-one"]),
                           ("+two -two +one", ["", "+one", "+two"]), ("+one -one -one", ["", "+one", "-one"]),
                           ("+one +one -one -one +two", ["", "+one", "+two", "+one +one"]),
                           ("-two +one -one +two +one -two", ["", "+one", "-two", "+one -two", "-two +one"])]:
            self.assertEqual(Walk(TWO, text).places(), want)

    def test_the_end(self):
        for text, want in [("", ""), ("+one -one", ""), ("+one -one +two", "+two"), ("+one +two -two -one -one", "-one"),
                           ("+one -two +two +one", "+one +one"), ("+one +two -one -two", "+one +two -one -two")]:
            self.assertEqual(Walk(TWO, text).final(), want)

    def test_a_new_list_each_time(self):
        u = Walk(TWO, "+one -two")
        u.places().clear()
        u.places().append("+two")
        self.assertEqual([u.places(), u == Walk(TWO, "+one -two")], [["", "+one", "+one -two"], True])

    def test_against_a_plain_reading(self):
        source = random.Random(96)
        for scene in [ONE, TWO, FULL]:
            for many in list(range(12)) * 4 + [150, 300]:
                words = steps(source, scene, many)
                self.assertEqual(walk(scene, words).places(), plain_walks.places(words))
                self.assertEqual(walk(scene, words).final(), " ".join(plain_walks.cancelled(words)))


class Scripts(unittest.TestCase):

    def test_its_lines(self):
        self.assertEqual(shape(Walk(TWO, "").script()), [])
        self.assertEqual(shape(Walk(TWO, "+one -two -one").script()), ["next one", "prev two", "prev one"])

    def test_it_tells_what_the_walk_gives(self):
        source = random.Random(97)
        for scene in [ONE, TWO, FULL]:
            world = World(scene, Maker(source, scene.text).world(6))
            for many in range(51):
                u = walk(scene, steps(source, scene, many) if many < 8 else wandering(source, scene, many + 30)[:many])
                script = u.script()
                self.assertEqual([type(script), script.scene, script.walks], [Script, scene, len(u.text.split())])
                self.assertEqual(shape(script), [("next " if word[0] == "+" else "prev ") + word[1:] for word in u.text.split()])
                for thing in world[scene.rows[0]]:
                    self.assertEqual(script.run(world, [thing]), ((u.at(world, thing),), world))
                self.assertEqual(script.run(world, [None]), ((None,), world))

    def test_somewhat_longer_ones(self):
        for many in [51, 58, 59, 60, 70, 120]:
            things = [f"x{one}{two}" for one in "bcdfghjklmnp" for two in "bcdfghjklmnp"]
            world = World(ONE, "row one " + " ".join(things))
            u = Walk(ONE, " ".join(["+one"] * many))
            self.assertEqual([u.script().run(world, [things[0]])[0], u.script().walks], [(things[many],), many])

    def test_it_is_compared_and_has_cases_as_any_other_script(self):
        there = Walk(TWO, "+one -one")
        self.assertFalse(alike(there.script(), Walk(TWO, "").script()))
        self.assertTrue(is_within(there.script(), Walk(TWO, "").script()))
        self.assertTrue(alike(Walk(TWO, "+one -one +one").script(), Walk(TWO, "+one").script()))
        self.assertEqual([(world.text, inputs, outputs) for world, inputs, outputs in cases(Walk(ONE, "+one").script())],
                         [("row one", (None,), (None,)), ("row one a", ("a",), (None,)), ("row one a b", ("a",), ("b",))])

    def test_a_walk_is_a_part_where_its_script_is_within(self):
        source = random.Random(98)
        shown = {True: 0, False: 0}
        for _ in range(60):
            one = steps(source, TWO, source.randrange(3))
            two = steps(source, TWO, 4 - len(one)) if source.randrange(2) else one + [source.choice(["+one", "-two"])]
            if source.randrange(2):
                two = one[:1] + [back(word) for word in one[:1]] + one[:1]
            u, v = walk(TWO, one), walk(TWO, two)
            self.assertEqual([u <= v, u == v], [is_within(u.script(), v.script()), alike(u.script(), v.script())])
            self.assertIs(u <= v, beyond(u.script(), v.script()) is None)
            shown[u <= v] += 1
        self.assertGreater(min(shown.values()), 10)


def shape(script):
    """The walks of a script of one input and one output, by the registers of which each takes what the one before gave."""
    lines = script.text.split("\n")
    held = lines[0].split(" ")[1]
    told = []
    for line in lines[1:-1]:
        name, _, word, given, row = line.split(" ")
        assert given == held
        held = name
        told.append(f"{word} {row}")
    assert lines[-1] == f"gives {held}"
    return told


class Examples(unittest.TestCase):

    def test_the_example_of_the_interface(self):
        scene = Scene("row one\nrow two")
        go, there, there_and_back = Walk(scene, "+one"), Walk(scene, "+one -one +one"), Walk(scene, "+one -one")
        self.assertEqual([go == there, there_and_back == Walk(scene, ""), there_and_back <= Walk(scene, ""),
                          (go + ~go).places(), (go + Walk(scene, "-two")).final()],
                         [True, False, True, ["", "+one"], "+one -two"])


if __name__ == "__main__":
    unittest.main()
