"""[13], [7]: which texts are sayings, and the first wrong word of those that are none."""

import itertools
import random
import unittest

from seatedtwice.errors import BadSaying
from seatedtwice.sayings import Saying
from seatedtwice.scenes import Scene
from tests import plain, plain_texts
from tests.made import Maker

PLAIN = Scene("row one")
TWO = Scene("row one\nrow two")
MARKED = Scene("row one\nmark done")
LOTS = Scene("row one\nlots")
FULL = Scene("row one\nrow two\nrow three\nmark done\nmark seen\nlots")

GOOD = """a missing
a is a
a is b
a ahead b two
a has seen
a with b
one has done
abcdefghijkl missing
not a missing
not not a missing
( a missing )
a missing and b missing or not c missing
( a missing or b missing ) and not ( a is b )
all x ( x has done )
some x ( x has done )
all x y ( x ahead y one )
some x y ( x with y and not x is y )
not all x ( x missing )
( all x ( x missing ) )
all x ( ( x missing ) )
all x ( not ( x missing or x has done ) and x is a )
a has done and all x ( x has done ) or not some y ( y is a )
all x ( x is x ) and some y z ( y is z ) or not all x y ( y ahead x three )
all one ( one ahead one one )
all a b ( a is b ) and a is b
all done seen ( done has seen and seen has done )
some x ( a missing )
all x y ( a missing )""".split("\n")


class Texts(unittest.TestCase):

    def check(self, text, scene=FULL):
        """The first wrong word is the one behind a `^`; a `^` at the end says that words are lacking."""
        wrong = [index for index, word in enumerate(text.split(" ")) if "^" in word]
        text = text[:-2] if text.endswith(" ^") else text.replace("^", "")
        with self.subTest(text, scene=scene.text):
            if not wrong:
                saying = Saying(scene, text)
                self.assertEqual([saying.text, saying.scene], [text, scene])
            else:
                with self.assertRaises(BadSaying) as caught:
                    Saying(scene, text)
                self.assertEqual(caught.exception.index, wrong[0])

    def test_good_ones(self):
        for text in GOOD:
            self.check(text)

    def test_attributes(self):
        saying = Saying(FULL, "a missing")
        self.assertIs(saying.scene, FULL)
        self.assertEqual([saying.text, saying.is_bare], ["a missing", False])

    def test_no_words_and_empty_words(self):
        for text, index in [("", 0), (" ", 0), ("  ", 0), (" a missing", 0), ("a  missing", 1), ("a missing ", 2),
                            ("a missing  and b missing", 2), ("all  x ( x missing )", 1), ("all x (  x missing )", 3),
                            ("all x ( x missing ) ", 6), ("a missing and ", 3), ("a ", 1), ("not ", 1)]:
            with self.subTest(text):
                with self.assertRaises(BadSaying) as caught:
                    Saying(FULL, text)
                self.assertEqual(caught.exception.index, index)

    def test_words_that_are_lacking(self):
        for text in ["a", "a is", "a ahead", "a ahead b", "a has", "a with", "not", "(", "( a missing", "a missing and",
                     "a missing or not", "all", "all x", "all x y", "all x (", "all x y (", "all x ( x", "all x ( x missing",
                     "some x ( ( x missing )", "( all x ( x missing )", "( ( a missing ) or b missing"]:
            self.check(text + " ^")

    def test_words_that_cannot_stand_there(self):
        for text in ["^missing", "a ^a", "a missing ^b", "a missing ^missing", "a missing ^)", "^)", "( ^)",
                     "^and a missing", "a ^and b missing", "a missing and ^or", "not ^and", "a ahead b ^four",
                     "a ahead b ^done", "a has ^one", "a has ^four", "a is ^is", "a is ^not", "a with one ^two",
                     "a missing ^not", "a missing ^( b missing )", "( a missing ) ^b missing", "^A missing", "^a1 is b",
                     "^abcdefghijklm missing", "a is ^abcdefghijklm", "^if a missing", "^(a missing)",
                     "a ^missing, b missing", "a ^Missing", "a ^missing\nb missing", "a ^missing\n", "^\na missing", "a ^=",
                     "^nothing is a", "^row missing", "a missing and ^missing", "a is b ^is c"]:
            self.check(text)

    def test_blocks_that_are_wrong(self):
        for text in ["all ^( x missing )", "all x ^x missing", "all x ^x ( x missing )", "all x y ^z ( x missing )",
                     "all x ( ^)", "all x ( x missing ) ^)", "all x ( x missing ) ^x missing", "all x ( x missing and ^)",
                     "all ^it ( a missing )", "all ^X ( a missing )", "all ^abcdefghijklm ( a missing )",
                     "all ^all ( a missing )", "all x ^some ( a missing )", "all ^not x ( x missing )",
                     "x ^all ( x missing )", "x missing ^all x ( x missing )", "some x y ^y ( x is y )",
                     "all x ^, y ( x is y )", "( all x ^) ( x missing )", "all ^( x ) ( x missing )",
                     "every ^x ( x missing )", "all ^row ( a missing )", "all x y ^", "all x ^)", "all x ^missing"]:
            self.check(text)

    def test_a_block_within_a_block(self):
        for text in ["all x ( ^all y ( x is y ) )", "all x ( x missing and ^some y ( x is y ) )",
                     "some x ( not ^all y ( y is x ) )", "all x ( ( ^some y ( y is x ) ) )", "all x y ( ^all"]:
            self.check(text)

    def test_three_blocks_and_four(self):
        block, two = "all x ( x missing )", "some x y ( x is y )"
        for word in ["and", "or"]:
            self.check(f" {word} ".join([block] * 3))
            self.check(f" {word} ".join([block] * 3 + ["^" + block]))
            self.check(f" {word} ".join([block] * 3 + ["^" + two, block]))
        self.check(f"{block} and ( {two} or not {two} ) and a missing")
        self.check(f"{block} and ( {two} or not {two} ) and ^some")
        self.check(f"{block} and ( {two} or not {two} and not ^{block} )")

    def test_it_is_no_word_of_a_saying(self):
        for text in ["^it missing", "a is ^it", "^it has done", "a ahead ^it one", "^it with a", "all x ( ^it is x )",
                     "some x ( x is ^it )", "all ^it ( it missing )"]:
            self.check(text)

    def test_has_without_marks_and_with_without_lots(self):
        for scene, has, lies in [(PLAIN, "^", "^"), (MARKED, "", "^"), (LOTS, "^", ""), (FULL, "", "")]:
            self.check(f"a {has}has done", scene)
            self.check(f"a {lies}with b", scene)
            self.check(f"all x ( x {has}has done )", scene)
            self.check(f"some x ( x {lies}with a )", scene)
        self.check("a has ^seen", MARKED)
        self.check("a ahead b ^two", PLAIN)

    def test_eight_parts_and_nine(self):
        for part in ["a missing", "a is b", "a ahead b one", "not a missing", "( a missing )", "not ( a missing )"]:
            wrong = part.replace("a ", "^a ", 1)
            for word in ["and", "or"]:
                self.check(f" {word} ".join([part] * 8))
                self.check(f" {word} ".join([part] * 8 + [wrong]))
                self.check(f" {word} ".join([part] * 8 + [wrong, part]))
                self.check(f" {word} ".join([part] * 8) + f" {word} ^")

    def test_parts_within_blocks_count(self):
        four = "x is x and x is x and x is x and x is x"
        self.check(f"all x ( {four} ) or some x ( {four} )")
        self.check(f"all x ( {four} ) or some x ( {four} or ^x is x )")
        self.check(f"all x ( {four} ) or some x ( {four} ) or ^a missing")
        self.check(f"all x ( {four} and {four} )")
        self.check(f"all x ( {four} and {four} and ^x is x )")
        # The block itself is no part: the first word of a ninth part is in it.
        self.check(f"all x ( {four} and {four} ) and not some y ( ^y is x )")
        self.check(f"all x ( {four} and {four} ) and not some y ^")

    def test_ten_open_and_eleven(self):
        for opened, closed in [("( ", " )"), ("not ", "")]:
            for part in ["a missing", "all x ( x missing )", "some x y ( x is y )"]:
                self.check(opened * 10 + part + closed * 10)
                self.check(opened * 10 + "^" + opened + part + closed * 11)
            self.check(f"all x ( {opened * 10}x missing{closed * 10} )")
            self.check(f"all x ( {opened * 10}^{opened}x missing{closed * 11} )")
        self.check("not ( " * 5 + "a missing" + " )" * 5)
        self.check("not ( " * 5 + "^not a missing" + " )" * 5)

    def test_what_is_open_around_a_block_is_open_within_it(self):
        self.check("not " * 9 + "all x ( not x missing )")
        self.check("not " * 10 + "all x ( ^not x missing )")
        self.check("not " * 10 + "all x ( x missing ) and " + "not " * 10 + "a missing")
        self.check("( " * 9 + "all x ( ( x missing ) and ( x missing ) )" + " )" * 9)
        self.check("( " * 10 + "some x y ( ^( x missing ) )" + " )" * 10)
        self.check("( not " * 5 + "some x ( x missing and ^not x missing )" + " )" * 5)

    def test_the_brackets_of_a_block_do_not_count(self):
        self.check("( " * 10 + "all x ( x missing )" + " )" * 10)
        self.check("( " * 10 + "all x ( x missing ) and some x y ( x is y )" + " )" * 10)

    def test_a_not_is_open_until_the_part_or_bracket_or_block_behind_it_ends(self):
        nots = "not " * 10
        self.check(f"{nots}a missing and {nots}all x ( x missing ) or {nots}b missing")
        self.check(f"not all x ( x missing ) and {nots}a missing")
        self.check(f"not ( all x ( x missing ) and {'not ' * 8}^not a missing )")
        self.check(f"not ( {'not ' * 8}a missing and {'not ' * 8}some x ( x missing ) )")


class AgainstAPlainReading(unittest.TestCase):

    def index_of(self, scene, text):
        try:
            Saying(scene, text)
        except BadSaying as error:
            return error.index
        return None

    def test_all_short_rows_of_words(self):
        """A word is right if a good saying begins with it and those before it."""
        good = [" ".join(words) for many in range(2, 13) for words in conditions(many, True)]
        begun = {tuple(text.split(" ")[:many]) for text in good for many in range(5)}
        good = set(good)
        for many in range(1, 5):
            for words in itertools.product(["x", "y", "missing", "not", "(", ")", "and", "all"], repeat=many):
                right = max(to for to in range(many + 1) if words[:to] in begun)
                text = " ".join(words)
                if right == many and text in good:
                    self.assertIs(self.index_of(PLAIN, text), None, text)
                else:
                    self.assertEqual(self.index_of(PLAIN, text), right, text)

    def test_spoiled_ones(self):
        source = random.Random(81)
        told = {}
        for scene in [PLAIN, TWO, MARKED, LOTS, FULL]:
            maker = Maker(source, scene.text)
            maker.known = ["a", "b"]
            for _ in range(1200):
                text = maker.saying(source.randrange(6))
                for _ in range(source.choice([0, 1, 1, 2])):
                    text = spoiled(source, text)
                want = plain_texts.wrong_word(plain.Scene(scene.text), text)
                self.assertEqual(self.index_of(scene, text), want, (scene.text, text))
                told[want] = told.get(want, 0) + 1
        self.assertGreater(min(told.get(index, 0) for index in [None, *range(12)]), 40)


def conditions(many, blocks):
    """All good conditions of so many words, in which few different words stand, as tuples of words."""
    told = list(single(many, blocks))
    for first in range(2, many - 2):
        for words in single(first, blocks):
            for more in conditions(many - first - 1, blocks):
                told.append((*words, "and", *more))
    return told


def single(many, blocks):
    """Those that nothing joins."""
    if many == 2:
        yield from [("x", "missing"), ("y", "missing")]
    if many > 2:
        for words in single(many - 1, blocks):
            yield "not", *words
    if many > 3:
        for words in conditions(many - 2, blocks):
            yield "(", *words, ")"
    if blocks:
        for names in [("x",), ("y",), ("x", "y"), ("y", "x")]:
            if many > len(names) + 4:
                for words in conditions(many - len(names) - 3, False):
                    yield "all", *names, "(", *words, ")"


WORDS = """all some x y a it is has with ahead missing not and or ( ) one two done seen row 1 X""".split()


def spoiled(source, text):
    """The text with a word put in, taken out, doubled or exchanged, or cut short, or two texts put together."""
    words = text.split(" ")
    at, to = source.randrange(len(words)), source.randrange(len(words))
    kind = source.randrange(8)
    if kind == 0:
        words.insert(at, source.choice(WORDS))
    elif kind == 1:
        del words[at]
    elif kind == 2:
        words.insert(at, words[at])
    elif kind == 3:
        words[at] = source.choice(WORDS)
    elif kind == 4:
        words[at], words[to] = words[to], words[at]
    elif kind == 5:
        words = words[:at]
    elif kind == 6:
        words.insert(source.randrange(len(words) + 1), "")
    else:
        words += [source.choice(["and", "or", ""])] + words
    return " ".join(words)


if __name__ == "__main__":
    unittest.main()
