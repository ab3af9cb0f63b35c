"""[8], [9] and the interface's part seatedtwice/scripts.py: runs, what they give, leave and visit."""

import itertools
import random
import unittest

from seatedtwice.errors import BadInputs, OtherScene
from seatedtwice.scenes import Scene
from seatedtwice.scripts import Script
from seatedtwice.worlds import World
from tests import plain
from tests.made import Maker

PLAIN = Scene("row one")
SCENE = Scene("row one\nrow two\nmark done\nmark seen\nlots")
TEXT = "row one p q r s\nrow two s q p r\nmark done q s\nmark seen\nlot p r\nlot q\nlot s"
WORLD = World(SCENE, TEXT)
EMPTY = World(SCENE, "row one\nrow two\nmark done\nmark seen")
ALONE = World(SCENE, "row one p\nrow two p\nmark done p\nmark seen\nlot p")


def run(lines, inputs=(), world=WORLD, gives="c"):
    """(outputs, world) of a script with these lines, which takes `a` and `b` as far as there are inputs."""
    head = " ".join(["takes", "a", "b"][:1 + len(inputs)])
    return Script(world.scene, f"{head}\n{lines}\ngives {gives}".rstrip(" ")).run(world, list(inputs))


def given(line, *inputs, world=WORLD):
    """What `c` holds behind a line."""
    return run(line, inputs, world)[0][0]


def order(line, row, *inputs, world=WORLD):
    """The order of a row behind a line, as one word."""
    return "".join(run(line, inputs, world)[1][row])


class Walks(unittest.TestCase):

    def test_next_and_prev(self):
        for row, names in [("one", "pqrs"), ("two", "sqpr")]:
            for at, name in enumerate(names):
                self.assertEqual(given(f"c = next a {row}", name), names[at + 1] if at < 3 else None)
                self.assertEqual(given(f"c = prev a {row}", name), names[at - 1] if at else None)

    def test_first_and_last(self):
        self.assertEqual([given("c = first one"), given("c = last one")], ["p", "s"])
        self.assertEqual([given("c = first two"), given("c = last two")], ["s", "r"])
        self.assertEqual([given("c = first one", world=ALONE), given("c = last two", world=ALONE)], ["p", "p"])

    def test_in_a_world_without_things(self):
        for line in ["c = first one", "c = last two", "c = next a one", "c = prev a two", "c = first one where a missing"]:
            self.assertIs(given(line, None, world=EMPTY), None)

    def test_a_world_with_one_thing(self):
        for line in ["c = next a one", "c = prev a one", "c = next a two where a is a", "c = last one where it has seen"]:
            self.assertIs(given(line, "p", world=ALONE), None)
        self.assertEqual(given("c = last one where it has done", "p", world=ALONE), "p")

    def test_from_nothing(self):
        for line in ["c = next a one", "c = prev a two", "c = next a one where a missing", "c = prev b one where not b is b",
                     "c = next d one"]:
            self.assertIs(given(f"c = first one\n{line}", None, None), None)

    def test_the_first_one_for_which_the_condition_is_true(self):
        self.assertEqual(given("c = first one where it has done"), "q")
        self.assertEqual(given("c = last one where it has done"), "s")
        self.assertEqual(given("c = first two where it has done"), "s")
        self.assertEqual(given("c = last two where it has done"), "q")
        self.assertEqual(given("c = next a one where it has done", "p"), "q")
        self.assertEqual(given("c = next a one where it has done", "q"), "s")
        self.assertIs(given("c = next a one where it has done", "s"), None)
        self.assertEqual(given("c = prev a one where it has done", "s"), "q")
        self.assertEqual(given("c = prev a one where it has done", "r"), "q")
        self.assertIs(given("c = prev a one where it has done", "q"), None)
        self.assertEqual(given("c = prev a one where it with a", "r"), "p")
        self.assertEqual(given("c = next a one where it ahead a two", "p"), "q")
        self.assertEqual(given("c = next a one where it ahead a two", "r"), "s")
        self.assertEqual(given("c = next a two where it ahead a one", "s"), "q")
        self.assertEqual(given("c = prev a one where it ahead a two and not it has done", "r"), "p")
        self.assertIs(given("c = first one where it has seen"), None)

    def test_the_condition_can_ask_for_what_is_walked_from(self):
        self.assertEqual(given("c = next a one where a missing or not a is it", "p"), "q")
        self.assertIs(given("c = next a one where it is a", "p"), None)

    def test_the_register_that_is_given_holds_what_it_held_before(self):
        self.assertEqual(given("c = a\nc = first one where c ahead it one", "q"), "r")
        self.assertEqual(given("c = a\nc = last one where it ahead c two", "r"), "s")
        self.assertEqual(given("c = next a one where c missing", "p"), "q")
        self.assertIs(given("c = a\nc = next a one where c missing", "p"), None)
        self.assertEqual(given("c = a\nc = prev c one where it is c or it ahead c two", "r"), "q")
        self.assertEqual(given("c = a\nc = next c one where it ahead c two\nc = prev c one where it ahead c two", "p"), None)

    def test_the_register_that_is_given_holds_nothing_if_nothing_is_found(self):
        for line in ["c = next c one", "c = first one where it has seen", "c = last two where not it is it"]:
            self.assertIs(given(f"c = last one\n{line}"), None)

    def test_it_is_no_register(self):
        self.assertIs(given("c = first one where not it missing\nd = e\nc = d"), None)

    def test_registers_with_names_of_rows_and_marks(self):
        self.assertEqual(given("one = next a one\ndone = next one one\ntwo = first two\nc = done\nput two behind done one",
                               "p"), "r")
        self.assertEqual(order("one = first one\ntwo = last one\nswap one two one", "one"), "sqrp")


class Registers(unittest.TestCase):

    def test_at_the_beginning(self):
        self.assertEqual(run("turn one", ["p", "q"], gives="b a")[0], ("q", "p"))
        self.assertEqual(run("turn one", ["p", None], gives="a b")[0], ("p", None))
        self.assertEqual(run("turn one", ["p", "p"], gives="a b")[0], ("p", "p"))
        self.assertEqual(run("turn one", ["p", "p"], gives="c d")[0], (None, None))
        self.assertEqual(run("turn one", [None, None], gives="a a")[0], (None, None))

    def test_copies(self):
        self.assertEqual(given("c = a", "p"), "p")
        self.assertEqual(run("c = a\na = b\nb = c", ["p", "q"], gives="a b")[0], ("q", "p"))
        self.assertEqual(run("c = a\na = nothing", ["p"], gives="a c")[0], (None, "p"))
        self.assertEqual(run("c = a\nc = b", ["p", None], gives="c a")[0], (None, "p"))
        self.assertEqual(run("a = a\nd = e", ["p"], gives="a d")[0], ("p", None))
        self.assertIs(given("c = a\nc = nothing", "p"), None)

    def test_no_outputs(self):
        self.assertEqual(run("c = first one", gives="")[0], ())

    def test_kinds(self):
        outputs, world = run("c = a", ["p"], gives="a c")
        self.assertEqual([type(outputs), type(world), type(run("c = a", ["p"]))], [tuple, World, tuple])


class Blocks(unittest.TestCase):

    def test_if(self):
        lines = "if a has done\nc = first one\nend"
        self.assertEqual([given(lines, "q"), given(lines, "p"), given(lines, None)], ["p", None, None])

    def test_else(self):
        lines = "if a has done\nc = first one\nelse\nc = last one\nend"
        self.assertEqual([given(lines, "q"), given(lines, "p"), given(lines, None)], ["p", "s", "s"])

    def test_blocks_without_lines(self):
        self.assertEqual(given("if a has done\nend\nc = a", "q"), "q")
        self.assertEqual(given("if a has done\nelse\nend\nc = a", "q"), "q")
        self.assertEqual(given("if a has done\nelse\nc = a\nend", "q"), None)
        self.assertEqual(given("if a has done\nc = a\nelse\nend", "q"), "q")
        self.assertEqual(given("times 5\nend\nc = a", "q"), "q")

    def test_times(self):
        for many in range(1, 6):
            self.assertEqual(given(f"c = first one\ntimes {many}\nc = next c one\nend"), ["q", "r", "s", None, None][many - 1])
            self.assertEqual(order(f"times {many}\nturn one\nend", "one"), "srqp" if many % 2 else "pqrs")

    def test_times_in_times(self):
        names = [f"{one}{two}" for one, two in itertools.product("bcdefg", "abcdefghjk")]
        world = World(PLAIN, "row one " + " ".join(names))
        for first, second, third in itertools.product([1, 2, 5], [1, 3], [1, 2, 4]):
            lines = f"c = a\ntimes {first}\ntimes {second}\nc = next c one\nend\ntimes {third}\nc = next c one\nend\nend"
            self.assertEqual(given(lines, "ba", world=world), names[first * (second + third)])

    def test_conditions_are_asked_each_time(self):
        lines = "c = first one\ntimes 5\nif not c has done\nc = next c one\nend\nend"
        self.assertEqual(given(lines), "q")
        lines = "c = first one\ntimes 2\nif c has done\nc = next c one\nelse\nmark c done\nend\nend"
        self.assertEqual(given(lines), "q")

    def test_blocks_in_one_another(self):
        lines = "if a has done\nif b has done\nc = a\nelse\nc = b\nend\nelse\nif b has done\nelse\nc = first one\nend\nend"
        for one, other in itertools.product("pqrs", repeat=2):
            want = {"YY": one, "YN": other, "NY": None, "NN": "p"}[
                ("Y" if one in "qs" else "N") + ("Y" if other in "qs" else "N")]
            self.assertEqual(given(lines, one, other), want)

    def test_ten_blocks(self):
        lines = "\n".join(["c = a", *["times 1"] * 9, "times 2", "c = next c one", *["end"] * 10])
        self.assertEqual(given(lines, "p"), "r")
        lines = "\n".join(["if a missing\nelse"] * 10 + ["c = a"] + ["end"] * 10)
        self.assertEqual([given(lines, "p"), given(lines, None)], ["p", None])


class Deeds(unittest.TestCase):

    def test_put(self):
        for one, other in itertools.product("pqrs", repeat=2):
            for side, step in [("behind", 1), ("ahead", 0)]:
                for row, names in [("one", "pqrs"), ("two", "sqpr")]:
                    rest = [name for name in names if name != one]
                    if one != other:
                        rest.insert(rest.index(other) + step, one)
                    want = names if one == other else "".join(rest)
                    self.assertEqual(order(f"put a {side} b {row}", row, one, other), want)
        self.assertEqual(order("put a behind b one", "one", "p", "s"), "qrsp")
        self.assertEqual(order("put a ahead b one", "one", "s", "p"), "spqr")
        self.assertEqual(order("put a behind b one", "one", "q", "p"), "pqrs")
        self.assertEqual(order("put a ahead b one", "one", "q", "p"), "qprs")

    def test_swap(self):
        for one, other in itertools.product("pqrs", repeat=2):
            names = {one: other, other: one}
            self.assertEqual(order("swap a b two", "two", one, other), "".join([names.get(name, name) for name in "sqpr"]))
        self.assertEqual(order("swap a b one", "one", "p", "s"), "sqrp")

    def test_deeds_with_a_thing_by_itself_or_with_nothing(self):
        for line in ["put a behind b one", "put a ahead b one", "swap a b one", "put a behind b two", "put a ahead b two",
                     "swap a b two"]:
            for inputs in [(None, "p"), ("p", None), (None, None), ("p", "p"), ("s", "s")]:
                self.assertEqual(run(line, inputs)[1], WORLD)
            for inputs in [("p", "p"), ("p", None), (None, "p"), (None, None)]:
                self.assertEqual(run(line, inputs, ALONE)[1], ALONE)
            self.assertEqual(run(line, [None, None], EMPTY)[1], EMPTY)
        self.assertEqual(run("put a behind a one\nswap a a two", ["q"])[1], WORLD)

    def test_turn(self):
        self.assertEqual([order("turn one", "one"), order("turn one", "two")], ["srqp", "sqpr"])
        self.assertEqual([order("turn two", "one"), order("turn two", "two")], ["pqrs", "rpqs"])
        self.assertEqual(run("turn one\nturn one")[1], WORLD)
        self.assertEqual([run("turn one", world=EMPTY)[1], run("turn two", world=ALONE)[1]], [EMPTY, ALONE])

    def test_sort(self):
        self.assertEqual([order("sort one by two", "one"), order("sort one by two", "two")], ["sqpr", "sqpr"])
        self.assertEqual([order("sort two by one", "one"), order("sort two by one", "two")], ["pqrs", "pqrs"])
        self.assertEqual(run("sort one by one\nsort two by two")[1], WORLD)
        self.assertEqual([order("sort one by two\nturn one", row) for row in ("one", "two")], ["rpqs", "sqpr"])
        self.assertEqual([order("sort one by two\nturn two", row) for row in ("one", "two")], ["sqpr", "rpqs"])
        self.assertEqual(run("sort one by two", world=EMPTY)[1], EMPTY)

    def test_gather(self):
        self.assertEqual(order("gather one where it has done", "one"), "qspr")
        self.assertEqual(order("gather two where not it has done", "two"), "prsq")
        self.assertEqual(order("gather one where it has seen", "one"), "pqrs")
        self.assertEqual(order("gather one where it is it", "one"), "pqrs")
        self.assertEqual(order("gather one where it with a", "one", "r"), "prqs")
        self.assertEqual(order("gather one where it is a or it is b", "one", "s", "r"), "rspq")
        self.assertEqual(order("gather one where a missing", "one", None), "pqrs")
        self.assertEqual(run("gather one where it has done", world=EMPTY)[1], EMPTY)
        self.assertEqual(run("gather one where it has done", world=ALONE)[1], ALONE)

    def test_gather_asks_the_world_before(self):
        self.assertEqual(order("gather one where a ahead it one", "one", "q"), "rspq")
        self.assertEqual(order("gather one where a ahead it one", "one", "p"), "qrsp")
        self.assertEqual(order("gather one where it ahead a one", "one", "r"), "pqrs")
        self.assertEqual(order("gather one where it ahead a two", "one", "p"), "qspr")
        self.assertEqual(order("gather two where a ahead it one", "two", "p"), "sqrp")
        self.assertEqual(order("gather one where a ahead it one and it ahead b one", "one", "p", "s"), "qrps")

    def test_marks(self):
        marked = World(SCENE, TEXT.replace("done q s", "done p q s"))
        self.assertEqual(run("mark a done", ["p"])[1], marked)
        self.assertEqual(run("mark a done", ["q"])[1], WORLD)
        self.assertEqual(run("unmark a done", ["p"], marked)[1], WORLD)
        self.assertEqual(run("unmark a done", ["p"])[1], WORLD)
        self.assertEqual(run("mark a done\nunmark b seen", [None, None])[1], WORLD)
        self.assertEqual(run("mark a seen\nmark b seen", ["r", "q"])[1].marked("seen"), ["q", "r"])
        self.assertEqual(run("unmark a done\nunmark b done", ["q", "s"])[1].marked("done"), [])
        self.assertEqual(run("mark a done\nunmark a done", ["q"])[1].marked("done"), ["s"])
        self.assertEqual(given("mark a seen\nc = first one where it has seen", "r"), "r")

    def test_lots_stay(self):
        lines = "turn one\nsort two by one\nswap a b one\nmark a done\ngather two where it with a"
        self.assertEqual(sorted([sorted(lot) for lot in run(lines, ["p", "q"])[1].lots()]), [["p", "r"], ["q"], ["s"]])

    def test_deeds_of_one_row_leave_the_other_ones(self):
        for line in ["put a behind b one", "put a ahead b one", "swap a b one", "turn one", "sort one by two",
                     "gather one where it has done", "mark a done"]:
            self.assertEqual(order(line, "two", "p", "r"), "sqpr")

    def test_walks_go_through_the_world_as_it_is(self):
        self.assertEqual(given("turn one\nc = next a one", "r"), "q")
        self.assertEqual(given("put a behind b one\nc = next b one", "p", "r"), "p")
        self.assertEqual(given("swap a b one\nc = first one", "p", "r"), "r")
        self.assertEqual(given("d = next a one where it ahead a two\nturn two\nc = next a one where it ahead a two", "q"), "r")
        self.assertEqual(given("if a ahead b one\nturn one\nend\nif b ahead a one\nc = a\nend", "p", "q"), "p")


class Visits(unittest.TestCase):

    def visited(self, lines, inputs=(), world=WORLD):
        head = " ".join(["takes", "a", "b"][:1 + len(inputs)])
        return Script(world.scene, f"{head}\n{lines}\ngives").visited(world, list(inputs))

    def test_inputs_first(self):
        self.assertEqual(self.visited("turn one", ["q", "p"]), ["q", "p"])
        self.assertEqual(self.visited("turn one", ["q", "q"]), ["q"])
        self.assertEqual(self.visited("turn one", [None, "r"]), ["r"])
        self.assertEqual(self.visited("turn one", [None, None]), [])
        self.assertEqual(self.visited("c = first one", ["q", "p"]), ["q", "p"])

    def test_what_walks_give_each_thing_once(self):
        self.assertEqual(self.visited("c = last one\nc = prev c one\nc = first two\nc = first one"), ["s", "r", "p"])
        self.assertEqual(self.visited("c = next a one\nc = next a one\nc = next c one", ["p"]), ["p", "q", "r"])
        self.assertEqual(self.visited("times 5\nc = next c one\nend\nc = last two"), ["r"])
        self.assertEqual(self.visited("if a has done\nc = first one\nelse\nc = last one\nend", ["r"]), ["r", "s"])

    def test_what_is_only_asked_or_moved_is_not_visited(self):
        self.assertEqual(self.visited("c = last one where it has done"), ["s"])
        self.assertEqual(self.visited("gather one where it has done\nturn two\nsort one by two"), [])
        self.assertEqual(self.visited("c = first one where it has seen\nc = a", ["q"]), ["q"])

    def test_in_a_world_without_things(self):
        self.assertEqual(self.visited("c = first one", [None], EMPTY), [])

    def test_the_list_is_new(self):
        script = Script(SCENE, "takes a\nb = next a one\ngives b")
        inputs = ["p"]
        told = script.visited(WORLD, inputs)
        self.assertIs(type(told), list)
        told.append("x")
        told.pop(0)
        self.assertEqual([script.visited(WORLD, inputs), inputs], [["p", "q"], ["p"]])

    def test_a_run_goes_on_in_the_same_way_if_other_things_are_taken_away(self):
        source = random.Random(9)
        maker = Maker(source, SCENE.text)
        for _ in range(400):
            script = Script(SCENE, maker.script(2, 2, source.randrange(2, 9), 10 ** 9))
            world = World(SCENE, maker.world(6))
            inputs = maker.inputs(world.text, 2)
            visited = script.visited(world, inputs)
            self.assertEqual(script.run(world.cut(visited), inputs),
                             (script.run(world, inputs)[0], script.run(world, inputs)[1].cut(visited)))
            self.assertEqual(script.visited(world.cut(visited), inputs), visited)


class WaysAndWalks(unittest.TestCase):

    def check(self, lines, walks):
        text = "\n".join(["takes a", *lines, "gives a"])
        self.assertEqual(Script(PLAIN, text).walks, walks)
        self.assertEqual(plain.walks(text), walks)

    def test_lines_that_are_walks(self):
        self.check(["b = next a one", "b = prev a one where it is a", "b = first one", "b = last one where a missing"], 4)
        self.check(["b = a", "b = nothing", "turn one", "gather one where it is a", "put a behind b one", "swap a b one",
                    "sort one by one", "put a ahead b one"], 0)
        self.check([], 0)

    def test_if_with_and_without_else(self):
        walk = "b = next a one"
        for first, second in itertools.product(range(4), repeat=2):
            self.check(["if a missing", *[walk] * first, "else", *[walk] * second, "end"], max(first, second))
            self.check([walk, "if a missing", *[walk] * first, "end", *[walk] * second], 1 + first + second)
            self.check(["if a missing", *[walk] * first, "else", "if a is b", *[walk] * second, "else", walk, "end",
                        walk, "end", walk], max(first, max(second, 1) + 1) + 1)

    def test_times_in_times(self):
        walk = "b = next a one"
        for first, second in itertools.product(range(1, 6), repeat=2):
            self.check([f"times {first}", walk, f"times {second}", walk, walk, "end", "end", walk],
                       first * (1 + 2 * second) + 1)
            self.check([f"times {first}", "if a missing", walk, "else", f"times {second}", walk, "end", "end", "end"],
                       first * max(1, second))
        self.check(["times 5"] * 10 + [walk] + ["end"] * 10, 5 ** 10)

    def test_no_more_than_that_are_done(self):
        source = random.Random(3)
        maker = Maker(source, SCENE.text)
        for _ in range(300):
            text = maker.script(1, 0, source.randrange(9), 10 ** 9)
            script = Script(SCENE, text)
            self.assertEqual(script.walks, plain.walks(text))
            self.assertLessEqual(len(script.visited(WORLD, ["p"])), 1 + script.walks)


class Errors(unittest.TestCase):

    def check(self, takes, world, inputs, index):
        """All calls with these inputs raise BadInputs(index)."""
        script = Script(SCENE, "\n".join([" ".join(["takes", "a", "b"][:takes + 1]), "c = first one", "gives c"]))
        for call in [script.run, script.visited, lambda *told: next(script.steps(*told))]:
            with self.subTest(inputs, takes=takes):
                with self.assertRaises(BadInputs) as caught:
                    call(world, inputs)
                self.assertEqual(caught.exception.index, index)

    def test_too_many_inputs(self):
        self.check(0, WORLD, ["p"], 0)
        self.check(0, WORLD, [None], 0)
        self.check(0, WORLD, ["x", "y"], 0)
        self.check(1, WORLD, ["p", "q"], 1)
        self.check(1, WORLD, ["p", None, None], 1)
        self.check(2, WORLD, ["p", None, "q"], 2)
        self.check(2, WORLD, (None, None, "x", "y"), 2)

    def test_too_few_inputs(self):
        self.check(1, WORLD, [], 0)
        self.check(2, WORLD, [], 0)
        self.check(2, WORLD, ["p"], 1)
        self.check(2, EMPTY, [None], 1)

    def test_inputs_that_are_no_things(self):
        for name in ["x", "", "P", "one", "done", "pq", "nothing", "it", " p"]:
            self.check(1, WORLD, [name], 0)
            self.check(2, WORLD, ["p", name], 1)
            self.check(2, WORLD, [name, name], 0)
        self.check(1, EMPTY, ["p"], 0)

    def test_the_first_one(self):
        self.check(2, WORLD, ["x"], 0)
        self.check(2, WORLD, ["x", "p", "q"], 0)
        self.check(2, WORLD, ["p", "x", "q"], 1)
        self.check(1, WORLD, ["x", "p"], 0)

    def test_another_scene(self):
        script = Script(PLAIN, "takes a\ngives a")
        for inputs in [["p"], [None], ("s",)]:
            for call in [script.run, script.visited, lambda *told: next(script.steps(*told))]:
                self.assertRaises(OtherScene, call, WORLD, inputs)
        for inputs in [["x"], [], ["p", "q"]]:
            for call in [script.run, script.visited, lambda *told: next(script.steps(*told))]:
                self.assertRaises(BadInputs, call, WORLD, inputs)
        self.assertRaises(OtherScene, Script(Scene("row two"), "takes\ngives").run, World(PLAIN, "row one"), [])

    def test_a_scene_of_the_same_text_serves(self):
        script = Script(Scene(SCENE.text), "takes a\nb = next a one\ngives b")
        self.assertEqual(script.run(WORLD, ["p"]), (("q",), WORLD))


class NothingElseChanges(unittest.TestCase):

    LINES = "turn one\nmark a done\nunmark b done\nswap a b one\nput a behind b two\nsort two by one\n" \
            "gather one where it has done\na = last one\nb = nothing"

    def test_the_world_the_inputs_and_the_script_stay(self):
        world = World(SCENE, TEXT)
        script = Script(SCENE, f"takes a b\n{self.LINES}\ngives a b")
        inputs = ["p", "q"]
        told = script.run(world, inputs)
        self.assertEqual([world.text, inputs], [TEXT, ["p", "q"]])
        self.assertEqual([world["one"], world["two"], world.marked("done"), world.lots()],
                         [list("pqrs"), list("sqpr"), ["q", "s"], [["p", "r"], ["q"], ["s"]]])
        for _ in range(3):
            self.assertEqual(script.run(world, inputs), told)
            self.assertEqual(script.run(world, ("p", "q")), told)
            self.assertEqual([script.takes, script.gives, script.walks], [("a", "b"), ("a", "b"), 1])
        self.assertEqual(script.visited(world, inputs), ["p", "q"])
        self.assertEqual(script.run(told[1], ["p", "q"]), script.run(World(SCENE, told[1].text), ["p", "q"]))

    def test_a_refused_run_changes_nothing(self):
        world = World(SCENE, TEXT)
        script = Script(SCENE, f"takes a b\n{self.LINES}\ngives a b")
        told = script.run(world, ["p", "q"])
        for inputs in [[], ["x", "p"], ["p", "q", "r"]]:
            self.assertRaises(BadInputs, script.run, world, inputs)
        self.assertEqual([world.text, script.run(world, ["p", "q"])], [TEXT, told])

    def test_the_world_behind_has_the_same_things(self):
        world = run(self.LINES, ["p", "q"])[1]
        self.assertEqual([sorted(world["one"]), sorted(world["two"]), len(world)], [list("pqrs"), list("pqrs"), 4])
        self.assertEqual(World(SCENE, world.text), world)


class ManyThings(unittest.TestCase):

    def test_some_hundreds_of_things(self):
        maker = Maker(random.Random(5), SCENE.text)
        text = maker.world(400)
        world, scene = World(SCENE, text), plain.Scene(SCENE.text)
        first = world["one"][0]
        lines = ["takes a", "times 3", "b = next a one where it ahead a two and it has done", "put b behind a two",
                 "gather one where it ahead a two or it with b", "mark b seen", "end", "sort two by one", "turn two",
                 "c = last one where it has seen", "swap c a one", "gives b c"]
        script = Script(SCENE, "\n".join(lines))
        want = plain.Run(scene, script.text, plain.read_world(scene, text), [first])
        told = script.run(world, [first])
        self.assertEqual([told[0], told[1].text], [want.outputs, plain.write_world(scene, want.world)])
        self.assertEqual(script.visited(world, [first]), want.visited)

    def test_ten_thousand_lines(self):
        def nested(depth):
            return "\n".join(["takes a", *["times 5"] * depth, "b = next a one where it ahead a two", "put b behind a one",
                              "swap a b two", *["end"] * depth, "gives b"])

        maker = Maker(random.Random(8), SCENE.text)
        world, scene = World(SCENE, maker.world(300)), plain.Scene(SCENE.text)
        first = world["one"][0]
        want = plain.Run(scene, nested(2), plain.read_world(scene, world.text), [first])
        outputs, behind = Script(SCENE, nested(2)).run(world, [first])
        self.assertEqual([outputs, behind.text], [want.outputs, plain.write_world(scene, want.world)])
        script = Script(SCENE, nested(5))
        self.assertEqual(script.walks, 5 ** 5)
        self.assertEqual(sorted(script.run(world, [first])[1]["one"]), sorted(world["one"]))


class AgainstAPlainReading(unittest.TestCase):

    def test_scripts_in_worlds(self):
        source = random.Random(1)
        for text in ["row one", "row one\nrow two", "row one\nrow two\nrow three\nmark done", "row one\nlots", SCENE.text]:
            maker, scene = Maker(source, text), Scene(text)
            for _ in range(250):
                lines = maker.script(source.randrange(3), source.randrange(3), source.randrange(1, 10), 200)
                world = maker.world(source.randrange(1, 7))
                inputs = maker.inputs(world, len(lines.split("\n")[0].split(" ")) - 1)
                want = plain.Run(maker.scene, lines, plain.read_world(maker.scene, world), inputs)
                script = Script(scene, lines)
                outputs, behind = script.run(World(scene, world), inputs)
                self.assertEqual(outputs, want.outputs, (lines, world, inputs))
                self.assertEqual(behind.text, plain.write_world(maker.scene, want.world), (lines, world, inputs))
                self.assertEqual(script.visited(World(scene, world), inputs), want.visited)


if __name__ == "__main__":
    unittest.main()
