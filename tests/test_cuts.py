"""[5]: worlds that are cut, forms and renamed worlds."""

import itertools
import string
import unittest

from seatedtwice.errors import NoThing
from seatedtwice.scenes import Scene
from seatedtwice.worlds import World

PLAIN = Scene("row one")
LOTS = Scene("row one\nlots")
FULL = Scene("row one\nrow two\nmark done\nlots")
TEXT = "row one p q r s\nrow two s r q p\nmark done p s\nlot p r s\nlot q"


def partitions(names):
    """All ways to lay names into lots."""
    if not names:
        yield []
        return
    for rest in partitions(names[1:]):
        yield [[names[0]], *rest]
        for at in range(len(rest)):
            yield [[names[0], *rest[at]], *rest[:at], *rest[at + 1:]]


def all_texts(names):
    """The texts of all worlds over FULL with things of these names."""
    for first, second in itertools.product(itertools.permutations(names), repeat=2):
        for borne in itertools.product((False, True), repeat=len(names)):
            for lots in partitions(names):
                marked = [name for name, is_borne in zip(names, borne) if is_borne]
                lines = [["row", "one", *first], ["row", "two", *second], ["mark", "done", *marked]]
                yield "\n".join([" ".join(line) for line in lines + [["lot", *lot] for lot in lots]])


class Cuts(unittest.TestCase):

    def test_to_none(self):
        world = World(FULL, TEXT).cut([])
        self.assertEqual(world.text, "row one\nrow two\nmark done")
        self.assertEqual([len(world), world.lots(), world.marked("done"), world["two"]], [0, [], [], []])

    def test_to_all(self):
        world = World(FULL, TEXT)
        for names in itertools.permutations("pqrs"):
            self.assertEqual(world.cut(list(names)), world)

    def test_to_some(self):
        world = World(FULL, TEXT)
        self.assertEqual(world.cut(["p", "r"]).text, "row one p r\nrow two r p\nmark done p\nlot p r")
        self.assertEqual(world.cut(["q", "s"]).text, "row one q s\nrow two s q\nmark done s\nlot q\nlot s")
        self.assertEqual(world.cut(["q"]).text, "row one q\nrow two q\nmark done\nlot q")

    def test_each_part_is_what_leaving_out_gives(self):
        world = World(FULL, TEXT)
        for many in range(5):
            for names in itertools.combinations("pqrs", many):
                cut = world.cut(list(names))
                self.assertEqual(len(cut), many)
                self.assertEqual(cut.scene, FULL)
                for row in ("one", "two"):
                    self.assertEqual(cut[row], [name for name in world[row] if name in names])
                self.assertEqual(cut.marked("done"), [name for name in world.marked("done") if name in names])
                self.assertEqual(sorted([name for lot in cut.lots() for name in lot]), sorted(names))
                for name, other in itertools.product(names, names):
                    self.assertEqual(*[any([name in lot and other in lot for lot in told.lots()])
                                       for told in (world, cut)])

    def test_lots_take_the_order_of_the_things_that_are_left(self):
        world = World(LOTS, "row one a b c\nlot a c\nlot b")
        self.assertEqual(world.cut(["b", "c"]).lots(), [["b"], ["c"]])
        self.assertEqual(world.cut(["c", "b"]).text, "row one b c\nlot b\nlot c")

    def test_empty_lots_go(self):
        world = World(LOTS, "row one a b c\nlot a\nlot b\nlot c")
        self.assertEqual(world.cut(["a", "c"]).text, "row one a c\nlot a\nlot c")

    def test_doubles_and_order_play_no_part(self):
        world = World(FULL, TEXT)
        cut = world.cut(["q", "s"])
        for names in [["s", "q"], ["q", "q", "s"], ["s", "q", "s", "q"], ("q", "s")]:
            self.assertEqual(world.cut(names), cut)

    def test_names_that_are_no_things(self):
        world = World(FULL, TEXT)
        for names, name in [(["x"], "x"), (["p", "x", "y"], "x"), (["y", "x"], "y"), (["p", "p", "", "x"], ""),
                            (["one"], "one"), (["p", "q", "r", "s", "lot"], "lot"), (["x", "x"], "x"), (["P"], "P")]:
            with self.subTest(names):
                with self.assertRaises(NoThing) as caught:
                    world.cut(names)
                self.assertEqual(caught.exception.name, name)
        self.assertEqual(world.text, TEXT)

    def test_names_of_things_that_were_left_out(self):
        with self.assertRaises(NoThing) as caught:
            World(FULL, TEXT).cut(["p"]).cut(["p", "q"])
        self.assertEqual(caught.exception.name, "q")

    def test_the_world_and_the_list_stay(self):
        world = World(FULL, TEXT)
        names = ["s", "q", "s"]
        cut = world.cut(names)
        self.assertEqual([names, world.text], [["s", "q", "s"], TEXT])
        names.append("p")
        self.assertEqual(len(cut), 2)

    def test_cut_twice(self):
        world = World(FULL, TEXT)
        self.assertEqual(world.cut(["p", "q", "s"]).cut(["s", "q"]), world.cut(["q", "s"]))


class Forms(unittest.TestCase):

    def test_without_things(self):
        world = World(FULL, "row one\nrow two\nmark done")
        self.assertEqual(world.form(), "row one\nrow two\nmark done")
        self.assertEqual(world.renamed(), world)

    def test_letters_in_the_order_of_the_first_row(self):
        world = World(FULL, "row one z m b\nrow two b z m\nmark done b z\nlot b m\nlot z")
        self.assertEqual(world.form(), "row one a b c\nrow two c a b\nmark done a c\nlot a\nlot b c")

    def test_names_that_are_letters_of_the_form_already(self):
        world = World(FULL, "row one c a b\nrow two a b c\nmark done a\nlot a c\nlot b")
        self.assertEqual(world.form(), "row one a b c\nrow two b c a\nmark done b\nlot a b\nlot c")

    def test_a_form_is_its_own_form(self):
        renamed = World(FULL, TEXT).renamed()
        self.assertEqual([renamed.text, renamed.form()], [World(FULL, TEXT).form()] * 2)
        self.assertEqual(renamed.renamed(), renamed)

    def test_the_renamed_world(self):
        world = World(FULL, TEXT)
        renamed = world.renamed()
        self.assertEqual(renamed.text, "row one a b c d\nrow two d c b a\nmark done a d\nlot a c d\nlot b")
        self.assertEqual(renamed, World(FULL, world.form()))
        self.assertEqual([renamed["two"], renamed.marked("done")], [["d", "c", "b", "a"], ["a", "d"]])
        self.assertEqual(renamed.scene, FULL)
        self.assertEqual(world.text, TEXT)

    def test_26_things(self):
        names = ["q" + letter for letter in reversed(string.ascii_lowercase)]
        letters = string.ascii_lowercase
        world = World(FULL, "\n".join(["row one " + " ".join(names), "row two " + " ".join(reversed(names)),
                                       "mark done qa qz", "lot " + " ".join(names[1:]), "lot " + names[0]]))
        self.assertEqual(world.form(), "\n".join([
            "row one " + " ".join(letters), "row two " + " ".join(reversed(letters)), "mark done a z", "lot a",
            "lot " + " ".join(letters[1:])]))
        self.assertEqual(world.renamed().form(), world.form())
        self.assertEqual(len(world.renamed()), 26)

    def test_somewhat_beyond_26_things_raises_nothing(self):
        names = ["q" + one + two for one in "abcde" for two in "abcdefghij"]
        world = World(PLAIN, "row one " + " ".join(names))
        self.assertEqual(len(world.renamed()), 50)

    def test_worlds_that_are_the_same_but_for_names(self):
        texts = {}
        for text in all_texts(["p", "q", "r"]):
            texts.setdefault(World(FULL, text).form(), []).append(text)
        # 6 orders of the second row, 8 sets of marked things, 5 ways to lay three things into lots.
        self.assertEqual(len(texts), 6 * 8 * 5)
        self.assertEqual({len(same) for same in texts.values()}, {6})
        for form, same in texts.items():
            self.assertEqual(World(FULL, form).form(), form)
            for text in same:
                names = World(FULL, text)["one"]
                letters = dict(zip("abc", names))
                words = [[letters.get(word, word) for word in line.split(" ")] for line in form.split("\n")]
                self.assertEqual(World(FULL, "\n".join([" ".join(line) for line in words])), World(FULL, text))

    def test_worlds_that_differ_a_little(self):
        world = World(FULL, TEXT)
        for text in ["row one p q r s\nrow two s r p q\nmark done p s\nlot p r s\nlot q",
                     "row one q p r s\nrow two s r q p\nmark done p s\nlot p r s\nlot q",
                     "row one p q r s\nrow two s r q p\nmark done p\nlot p r s\nlot q",
                     "row one p q r s\nrow two s r q p\nmark done p r\nlot p r s\nlot q",
                     "row one p q r s\nrow two s r q p\nmark done p s\nlot p r\nlot q s",
                     "row one p q r s\nrow two s r q p\nmark done p s\nlot p r s q",
                     "row one p q r\nrow two r q p\nmark done p\nlot p r\nlot q"]:
            self.assertNotEqual(World(FULL, text).form(), world.form())

    def test_the_form_of_each_cut(self):
        world = World(FULL, TEXT)
        self.assertEqual(world.cut(["q", "r"]).form(), "row one a b\nrow two b a\nmark done\nlot a\nlot b")
        self.assertEqual(world.cut(["r", "s"]).form(), "row one a b\nrow two b a\nmark done b\nlot a b")


if __name__ == "__main__":
    unittest.main()
