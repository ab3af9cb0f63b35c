"""[18] and the interface's part seatedtwice/halls.py: a world with buttons and guards, and undoing."""

import random
import unittest

from seatedtwice.errors import (BadInputs, BadName, BadScene, Barred, NoButton, NoGuard, NotBare, NothingToUndo, OtherScene,
                                SeatError, Taken)
from seatedtwice.halls import Hall
from seatedtwice.sayings import Saying
from seatedtwice.scenes import Scene
from seatedtwice.scripts import Script
from seatedtwice.worlds import World
from tests.made import Maker
from tests.test_kept import bare, deeds

SCENE = Scene("row one\nmark done")
OTHER = Scene("row one")
WORLD = World(SCENE, "row one p q r\nmark done p")
MARK = Script(SCENE, "takes a\nmark a done\ngives a")
UNMARK = Script(SCENE, "takes a\nunmark a done\ngives")
TURN = Script(SCENE, "takes\nturn one\na = first one\ngives a a")
PAIR = Script(SCENE, "takes a b\nswap a b one\ngives b a")
ANY = Saying(SCENE, "some x ( x has done )")
NONE = Saying(SCENE, "all x ( not x has done )")
FREE = Saying(SCENE, "a missing")
ELSEWHERE = Saying(OTHER, "all x ( x is x )")
BAD_NAMES = ["", "row", "it", "all", "Tick", "tick1", "two words", "abcdefghijklm", "tick ", " ", "\n", "some", "missing"]


def all_of(hall):
    """Whatever can be seen of a hall."""
    names = ["tick", "flip", "pair", "one", "a", "b", "zz"] + [f"b{letter}" for letter in "abcdefghijklmnopqrstuvwxyz"]
    return hall.world, len(hall), [(name, hall[name]) for name in names if name in hall], hall.guards()


def filled():
    """A hall with two buttons and a guard."""
    hall = Hall(WORLD)
    hall["tick"] = UNMARK
    hall["flip"] = TURN
    hall.add_guard("any", ANY)
    return hall


class Halls(unittest.TestCase):

    def raises(self, hall, error, call, *fields):
        """The call raises this error with these fields, and nothing has changed."""
        before = all_of(hall)
        with self.assertRaises(SeatError) as caught:
            call()
        self.assertIs(type(caught.exception), error)
        self.assertEqual(list(vars(caught.exception).values()), list(fields))
        self.assertEqual(all_of(hall), before)

    def keeps(self, hall, name, script):
        hall[name] = script


class Buttons(Halls):

    def test_a_new_hall(self):
        hall = Hall(WORLD)
        self.assertIs(hall.world, WORLD)
        self.assertEqual([len(hall), hall.guards(), "tick" in hall], [0, [], False])
        self.raises(hall, NoButton, lambda: hall["tick"], "tick")
        self.raises(hall, NothingToUndo, hall.undo)

    def test_world_is_a_property(self):
        self.assertIsInstance(Hall.__dict__["world"], property)

    def test_kept_and_dropped(self):
        hall = Hall(WORLD)
        hall["tick"] = MARK
        self.assertEqual([len(hall), "tick" in hall, "flip" in hall, hall["tick"] is MARK], [1, True, False, True])
        hall["flip"] = TURN
        hall["rows"] = PAIR
        self.assertEqual([len(hall), "flip" in hall, hall["rows"] is PAIR, hall["tick"] is MARK], [3, True, True, True])
        self.assertIs(hall.drop("flip"), None)
        self.assertEqual([len(hall), "flip" in hall, "tick" in hall], [2, False, True])
        self.raises(hall, NoButton, lambda: hall["flip"], "flip")
        self.raises(hall, NoButton, lambda: hall.drop("flip"), "flip")
        self.assertIs(hall.world, WORLD)

    def test_in_the_place_of_an_earlier_one(self):
        hall = Hall(WORLD)
        hall["tick"] = MARK
        hall["tick"] = UNMARK
        self.assertEqual([len(hall), hall["tick"] is UNMARK], [1, True])
        hall["tick"] = UNMARK
        self.assertEqual([len(hall), hall["tick"] is UNMARK], [1, True])

    def test_names_that_are_none(self):
        hall = filled()
        for name in BAD_NAMES:
            self.raises(hall, BadName, lambda: self.keeps(hall, name, MARK), name)
            self.raises(hall, BadName, lambda: self.keeps(hall, name, Script(OTHER, "takes\ngives")), name)
            self.raises(hall, NoButton, lambda: hall[name], name)
            self.raises(hall, NoButton, lambda: hall.drop(name), name)
            self.raises(hall, NoButton, lambda: hall.press(name, []), name)
            self.assertFalse(name in hall)

    def test_another_scene(self):
        hall = filled()
        self.raises(hall, OtherScene, lambda: self.keeps(hall, "tick", Script(OTHER, "takes\ngives")))
        self.raises(hall, OtherScene, lambda: self.keeps(hall, "new", Script(OTHER, "takes\ngives")))
        hall["new"] = Script(Scene(SCENE.text), "takes\nturn one\ngives")
        self.assertEqual([hall.press("new", []), hall.world["one"]], [(), ["r", "q", "p"]])

    def test_names_of_rows_and_marks_and_guards(self):
        hall = filled()
        for name in ["one", "done", "any"]:
            hall[name] = MARK
            self.assertIn(name, hall)
        self.assertEqual([len(hall), hall.guards()], [5, ["any"]])

    def test_it_is_not_iterated_over(self):
        self.assertRaises(TypeError, iter, filled())


class Presses(Halls):

    def test_outputs_and_the_world_behind(self):
        hall = Hall(WORLD)
        hall["tick"], hall["flip"], hall["pair"] = MARK, TURN, PAIR
        self.assertEqual([hall.press("tick", ["r"]), hall.world.marked("done")], [("r",), ["p", "r"]])
        self.assertEqual([hall.press("flip", []), hall.world["one"]], [("r", "r"), ["r", "q", "p"]])
        self.assertEqual([hall.press("pair", ["r", "p"]), hall.world["one"]], [("p", "r"), ["p", "q", "r"]])
        self.assertEqual([hall.press("tick", [None]), hall.press("pair", ("q", None))], [(None,), (None, "q")])
        self.assertEqual(hall.world.text, "row one p q r\nmark done p r")
        self.assertEqual(WORLD.text, "row one p q r\nmark done p")
        self.assertIs(type(hall.press("tick", ["p"])), tuple)
        self.assertEqual(hall.world, MARK.run(hall.world, ["p"])[1])

    def test_no_button_ahead_of_bad_inputs(self):
        hall = filled()
        self.raises(hall, NoButton, lambda: hall.press("pair", ["zz"]), "pair")
        for inputs, index in [([], 0), (["t"], 0), (["p", "q"], 1), (["t", "q"], 0), ([None, None], 1), (["done"], 0)]:
            self.raises(hall, BadInputs, lambda: hall.press("tick", inputs), index)
        self.raises(hall, BadInputs, lambda: hall.press("flip", ["p"]), 0)

    def test_barred(self):
        hall = filled()
        self.assertEqual([hall.press("tick", ["q"]), hall.press("tick", [None])], [(), ()])
        self.raises(hall, Barred, lambda: hall.press("tick", ["p"]), ["any"])
        self.raises(hall, BadInputs, lambda: hall.press("tick", ["p", "p"]), 1)
        hall.drop_guard("any")
        self.assertEqual([hall.press("tick", ["p"]), hall.world.marked("done")], [(), []])

    def test_all_guards_that_would_be_false_in_ascending_order(self):
        hall = Hall(WORLD)
        hall["tick"], hall["tock"] = UNMARK, MARK
        first = Saying(SCENE, "all x y ( not x has done or not x ahead y one or not y missing )")
        for name, saying in [("zz", ANY), ("b", Saying(SCENE, "some x ( x has done and x is x )")), ("m", first),
                             ("a", Saying(SCENE, "not all x ( not x has done )")), ("one", ANY)]:
            hall.add_guard(name, saying)
        self.raises(hall, Barred, lambda: hall.press("tick", ["p"]), ["a", "b", "one", "zz"])
        hall.add_guard("few", Saying(SCENE, "not some x y ( x has done and y has done and not x is y )"))
        self.raises(hall, Barred, lambda: hall.press("tock", ["q"]), ["few"])
        self.assertEqual(hall.press("tock", ["p"]), ("p",))

    def test_what_is_true_again_at_the_end_is_no_bar(self):
        hall = filled()
        hall["tick"] = Script(SCENE, "takes a\nunmark a done\nb = next a one\nmark b done\ngives b")
        self.assertEqual([hall.press("tick", ["p"]), hall.world.marked("done")], [("q",), ["q"]])
        self.assertEqual([hall.press("tick", ["q"]), hall.world.marked("done")], [("r",), ["r"]])
        self.raises(hall, Barred, lambda: hall.press("tick", ["r"]), ["any"])

    def test_one_behind_the_other_as_scripts_put_together(self):
        source = random.Random(101)
        pressed = 0
        for scene_text in ["row one", "row one\nrow two", "row one\nmark done", "row one\nrow two\nmark done\nlots"]:
            maker, scene = Maker(source, scene_text), Scene(scene_text)
            for _ in range(40):
                takes, between, gives = source.randrange(3), source.randrange(3), source.randrange(3)
                first = Script(scene, maker.script(takes, between, source.randrange(1, 7), 5))
                then = Script(scene, maker.script(between, gives, source.randrange(1, 7), 5))
                world = World(scene, maker.world(source.randrange(6)))
                inputs = maker.inputs(world.text, takes)
                hall = Hall(world)
                hall["one"], hall["two"] = first, then
                outputs = hall.press("two", hall.press("one", inputs))
                self.assertEqual((outputs, hall.world), then.after(first).run(world, inputs))
                pressed += hall.world != world
        self.assertGreater(pressed, 30)


class Guards(Halls):

    def test_added_and_dropped(self):
        hall = Hall(WORLD)
        for name in ["zz", "b", "any", "a"]:
            self.assertIs(hall.add_guard(name, ANY), None)
        self.assertEqual(hall.guards(), ["a", "any", "b", "zz"])
        self.assertIs(hall.drop_guard("b"), None)
        self.assertEqual(hall.guards(), ["a", "any", "zz"])
        self.raises(hall, NoGuard, lambda: hall.drop_guard("b"), "b")
        for name in BAD_NAMES:
            self.raises(hall, NoGuard, lambda: hall.drop_guard(name), name)
        hall.add_guard("b", ANY)
        self.assertEqual([hall.guards(), len(hall)], [["a", "any", "b", "zz"], 0])

    def test_a_new_list_each_time(self):
        hall = filled()
        told = hall.guards()
        told.append("zz")
        self.assertEqual([hall.guards(), type(told)], [["any"], list])
        hall.guards().clear()
        self.assertEqual(hall.guards(), ["any"])

    def test_errors_in_their_order(self):
        hall = filled()
        for name in BAD_NAMES:
            for saying in [ANY, NONE, FREE, ELSEWHERE]:
                self.raises(hall, BadName, lambda: hall.add_guard(name, saying), name)
        free_elsewhere = Saying(OTHER, "a missing or all x ( x is x )")
        for saying in [ANY, NONE, FREE, ELSEWHERE, free_elsewhere]:
            self.raises(hall, Taken, lambda: hall.add_guard("any", saying), "any")
        for saying in [FREE, free_elsewhere, Saying(SCENE, "not a missing"), Saying(SCENE, "all x ( x is a ) and a missing")]:
            self.raises(hall, NotBare, lambda: hall.add_guard("new", saying), 0)
        self.raises(hall, OtherScene, lambda: hall.add_guard("new", ELSEWHERE))
        self.raises(hall, OtherScene, lambda: hall.add_guard("new", Saying(OTHER, "all x ( x missing )")))
        self.raises(hall, Barred, lambda: hall.add_guard("new", NONE), ["new"])
        hall.add_guard("new", Saying(Scene(SCENE.text), "some x ( x has done )"))

    def test_the_name_of_a_button_is_free(self):
        hall = filled()
        hall.add_guard("tick", ANY)
        self.assertEqual([hall.guards(), hall["tick"] is UNMARK], [["any", "tick"], True])
        self.raises(hall, NoGuard, lambda: hall.drop_guard("flip"), "flip")
        self.raises(hall, NoButton, lambda: hall.drop("any"), "any")

    def test_a_guard_stands_also_against_later_buttons(self):
        hall = Hall(WORLD)
        hall.add_guard("any", ANY)
        hall["tick"] = UNMARK
        self.raises(hall, Barred, lambda: hall.press("tick", ["p"]), ["any"])


class Undoing(Halls):

    def test_each_kind_of_change(self):
        hall = Hall(WORLD)
        told = [all_of(hall)]
        for change in [lambda: self.keeps(hall, "tick", MARK), lambda: hall.press("tick", ["q"]),
                       lambda: hall.add_guard("any", ANY), lambda: self.keeps(hall, "flip", TURN), lambda: hall.press("flip", []),
                       lambda: self.keeps(hall, "tick", UNMARK), lambda: hall.press("tick", ["q"]), lambda: hall.drop("flip"),
                       lambda: hall.drop_guard("any"), lambda: hall.press("tick", ["p"]), lambda: hall.add_guard("no", NONE)]:
            change()
            told.append(all_of(hall))
        self.assertEqual(len({str(one) for one in told}), len(told))
        for before in reversed(told[:-1]):
            self.assertIs(hall.undo(), None)
            self.assertEqual(all_of(hall), before)
        for _ in range(2):
            self.raises(hall, NothingToUndo, hall.undo)

    def test_changes_that_change_nothing(self):
        hall = Hall(WORLD)
        hall["tick"] = MARK
        hall["tick"] = MARK
        hall.press("tick", [None])
        hall.press("tick", ["p"])
        for _ in range(3):
            hall.undo()
            self.assertEqual([hall.world, hall["tick"]], [WORLD, MARK])
        hall.undo()
        self.raises(hall, NothingToUndo, hall.undo)
        self.assertEqual(len(hall), 0)

    def test_a_button_in_the_place_of_an_earlier_one(self):
        hall = Hall(WORLD)
        hall["tick"], hall["flip"], hall["tick"] = MARK, TURN, UNMARK
        hall.undo()
        self.assertEqual([hall["tick"] is MARK, len(hall)], [True, 2])
        hall.undo()
        self.assertEqual([hall["tick"] is MARK, "flip" in hall], [True, False])

    def test_calls_with_errors_are_no_changes(self):
        hall = filled()
        for error, call in [(BadName, lambda: self.keeps(hall, "row", MARK)), (NoButton, lambda: hall.drop("zz")),
                            (BadInputs, lambda: hall.press("tick", [])), (Barred, lambda: hall.press("tick", ["p"])),
                            (Taken, lambda: hall.add_guard("any", ANY)), (NotBare, lambda: hall.add_guard("new", FREE)),
                            (Barred, lambda: hall.add_guard("new", NONE)), (NoGuard, lambda: hall.drop_guard("zz")),
                            (NoButton, lambda: hall["zz"]), (OtherScene, lambda: hall.add_guard("new", ELSEWHERE))]:
            self.assertRaises(error, call)
        hall.undo()
        self.assertEqual([hall.guards(), len(hall)], [[], 2])
        hall.undo()
        hall.undo()
        self.raises(hall, NothingToUndo, hall.undo)

    def test_calls_that_only_ask_are_no_changes(self):
        hall = filled()
        told = [hall.world, hall["tick"], "tick" in hall, len(hall), hall.guards()]
        hall.undo()
        self.assertEqual([hall.guards(), len(hall), len(told)], [[], 2, 5])

    def test_changes_behind_an_undo(self):
        hall = filled()
        hall.undo()
        hall.press("tick", ["p"])
        hall.add_guard("none", NONE)
        self.raises(hall, Barred, lambda: hall.add_guard("any", ANY), ["any"])
        hall.undo()
        hall.undo()
        self.assertEqual([hall.world, len(hall), hall.guards()], [WORLD, 2, []])

    def test_seventy_changes_one_by_one(self):
        source = random.Random(102)
        hall = Hall(WORLD)
        told = [all_of(hall)]
        while len(told) < 75:
            try:
                change(source, hall)
            except SeatError:
                self.assertEqual(all_of(hall), told[-1])
            else:
                told.append(all_of(hall))
        for before in reversed(told[:-1]):
            hall.undo()
            self.assertEqual(all_of(hall), before)
        self.raises(hall, NothingToUndo, hall.undo)

    def test_very_many_changes(self):
        hall = Hall(WORLD)
        hall["tick"] = TURN
        for _ in range(3000):
            hall.press("tick", [])
        for _ in range(3000):
            hall.undo()
        self.assertEqual([hall.world, len(hall)], [WORLD, 1])


def change(source, hall):
    """Try one change of some kind."""
    kind = source.randrange(6)
    name = source.choice(["tick", "flip", "a", "b"])
    if kind == 0:
        hall[name] = source.choice([MARK, UNMARK, TURN, PAIR])
    elif kind == 1:
        hall.drop(name)
    elif kind < 4:
        hall.press(name, [source.choice(["p", "q", "r", None]) for _ in hall[name].takes])
    elif kind == 4:
        hall.add_guard(name, source.choice([ANY, NONE, Saying(SCENE, "all x y ( not x ahead y one or y has done )")]))
    else:
        hall.drop_guard(name)


class Attempts(Halls):

    def test_what_ends_well(self):
        for result in [None, 0, 1, "", "told", [], (), False, True, {}, [1, 2], Barred(["a"]), ValueError]:
            hall = filled()

            def action(told):
                self.assertIs(told, hall)
                told["pair"] = PAIR
                told.press("pair", ["p", "q"])
                return result

            self.assertIs(hall.attempt(action), result)
            self.assertEqual([hall.world["one"], len(hall)], [["q", "p", "r"], 3])
            hall.undo()
            self.assertEqual([hall.world["one"], len(hall)], [["p", "q", "r"], 3])
            hall.undo()
            self.assertEqual(all_of(hall), all_of(filled()))

    def test_an_attempt_itself_is_no_change(self):
        hall = Hall(WORLD)
        self.assertEqual(hall.attempt(len), 0)
        self.raises(hall, NothingToUndo, hall.undo)
        hall["tick"] = MARK
        hall.attempt(lambda told: told.guards())
        hall.undo()
        self.assertEqual(len(hall), 0)

    def test_errors_of_all_classes(self):
        for error in [ValueError("x"), KeyError("x"), ZeroDivisionError(), RuntimeError(), StopIteration(), Barred(["z"]),
                      BadScene(1), NothingToUndo(), KeyboardInterrupt(), SystemExit(3), GeneratorExit(), TypeError(),
                      AttributeError(), AssertionError(), BaseException("x")]:
            hall = filled()

            def action(told):
                told["pair"] = PAIR
                told.press("pair", ["p", "q"])
                told.drop("flip")
                told.drop_guard("any")
                raise error

            with self.assertRaises(BaseException) as caught:
                hall.attempt(action)
            self.assertIs(caught.exception, error)
            self.assertEqual(all_of(hall), all_of(filled()))
            for _ in range(3):
                hall.undo()
            self.raises(hall, NothingToUndo, hall.undo)

    def test_errors_of_the_calls_within(self):
        hall = filled()

        def action(told):
            told.press("flip", [])
            told.press("tick", ["p"])

        self.raises(hall, Barred, lambda: hall.attempt(action), ["any"])
        self.assertEqual(hall.world, WORLD)
        self.raises(hall, NoButton, lambda: hall.attempt(lambda told: told.press("flip", []) and told["zz"]), "zz")
        self.raises(hall, NothingToUndo, lambda: hall.attempt(lambda told: [told.undo() for _ in range(4)]))
        self.assertRaises(TypeError, hall.attempt, lambda: None)
        self.assertEqual(all_of(hall), all_of(filled()))

    def test_an_error_that_the_action_catches_itself(self):
        hall = filled()

        def action(told):
            told.press("flip", [])
            try:
                told.press("tick", ["p"])
            except Barred as error:
                told["pair"] = PAIR
                return error.names

        self.assertEqual(hall.attempt(action), ["any"])
        self.assertEqual([hall.world["one"], "pair" in hall], [["r", "q", "p"], True])
        hall.undo()
        hall.undo()
        self.assertEqual(all_of(hall), all_of(filled()))

    def test_within_one_another(self):
        hall = filled()

        def inner(told):
            told.press("flip", [])
            told["b"] = PAIR
            raise KeyError("inner")

        def outer(told):
            told["a"] = PAIR
            try:
                told.attempt(inner)
            except KeyError:
                pass
            self.assertEqual([told.world, len(told), "b" in told], [WORLD, 3, False])
            told.undo()
            self.assertEqual(len(told), 2)
            told["a"] = MARK
            return told.attempt(lambda again: again.press("a", ["q"]))

        self.assertEqual(hall.attempt(outer), ("q",))
        self.assertEqual([hall.world.marked("done"), hall["a"] is MARK], [["p", "q"], True])
        hall.undo()
        hall.undo()
        self.assertEqual(all_of(hall), all_of(filled()))

        def failing(told):
            told.attempt(outer)
            told.attempt(inner)

        self.assertRaises(KeyError, hall.attempt, failing)
        self.assertEqual(all_of(hall), all_of(filled()))

    def test_undo_within(self):
        hall = filled()

        def action(told):
            told.press("flip", [])
            told.undo()
            told.undo()
            told.undo()
            told["zz"] = MARK
            return told.guards()

        self.assertEqual(hall.attempt(action), [])
        self.assertEqual([len(hall), "tick" in hall, "zz" in hall], [2, True, True])
        hall.undo()
        hall.undo()
        self.raises(hall, NothingToUndo, hall.undo)

    def test_undo_down_to_before_the_beginning_and_an_error(self):
        hall = filled()
        hall.press("flip", [])
        before = all_of(hall)

        def action(told):
            for _ in range(4):
                told.undo()
            self.assertEqual(all_of(told), all_of(Hall(WORLD)))
            told["a"] = PAIR
            told.press("a", ["p", "r"])
            told.undo()

            raise ZeroDivisionError

        self.assertRaises(ZeroDivisionError, hall.attempt, action)
        self.assertEqual(all_of(hall), before)
        hall.undo()
        self.assertEqual(all_of(hall), all_of(filled()))
        for _ in range(3):
            hall.undo()
        self.assertEqual(all_of(hall), all_of(Hall(WORLD)))
        self.raises(hall, NothingToUndo, hall.undo)

    def test_against_a_hall_without_attempts(self):
        source = random.Random(103)
        failed = 0
        for _ in range(150):
            hall, other = Hall(WORLD), Hall(WORLD)
            seeds = [source.randrange(10 ** 6) for _ in range(6)]
            for seed in seeds:
                fails = seed % 3 == 0

                def action(told):
                    tries(told, seed)
                    if fails:
                        raise KeyError(seed)

                if fails:
                    self.assertRaises(KeyError, hall.attempt, action)
                    failed += 1
                else:
                    hall.attempt(action)
                    tries(other, seed)
                self.assertEqual(all_of(hall), all_of(other))
            self.assertEqual(history(hall), history(other))
        self.assertGreater(failed, 100)


def tries(hall, seed):
    """Some changes, with some undoing in between."""
    source = random.Random(seed)
    for _ in range(8):
        try:
            if source.randrange(4) == 0:
                hall.undo()
            else:
                change(source, hall)
        except SeatError:
            pass


def history(hall):
    """What is seen of a hall as it is undone."""
    told = [all_of(hall)]
    while True:
        try:
            hall.undo()
        except NothingToUndo:
            return told
        told.append(all_of(hall))


class Whole(Halls):

    def test_guards_are_true_behind_each_press(self):
        source = random.Random(104)
        seen = {True: 0, False: 0}
        for scene_text in ["row one\nrow two", "row one\nmark done", "row one\nmark done\nlots"]:
            maker, scene = Maker(source, scene_text), Scene(scene_text)
            for _ in range(60):
                hall = Hall(World(scene, maker.world(4)))
                hall["one"] = Script(scene, deeds(maker, 1))
                saying = Saying(scene, bare(maker, 3, 20))
                if not saying.holds(hall.world, {}):
                    self.raises(hall, Barred, lambda: hall.add_guard("a", saying), ["a"])
                    continue
                hall.add_guard("a", saying)
                for _ in range(6):
                    inputs = maker.inputs(hall.world.text, 1)
                    outputs, behind = hall["one"].run(hall.world, inputs)
                    if saying.holds(behind, {}):
                        self.assertEqual((hall.press("one", inputs), hall.world), (outputs, behind))
                    else:
                        self.raises(hall, Barred, lambda: hall.press("one", inputs), ["a"])
                    seen[saying.holds(behind, {})] += 1
        self.assertGreater(min(seen.values()), 8, seen)

    def test_the_example_of_the_interface(self):
        scene = Scene("row one\nmark done")
        hall = Hall(World(scene, "row one p q\nmark done p"))
        hall["tick"] = Script(scene, "takes a\nunmark a done\ngives")
        hall.add_guard("any", Saying(scene, "some x ( x has done )"))
        self.assertEqual(hall.press("tick", ["q"]), ())
        with self.assertRaises(Barred) as caught:
            hall.press("tick", ["p"])
        self.assertEqual(caught.exception.names, ["any"])


if __name__ == "__main__":
    unittest.main()
