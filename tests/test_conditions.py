"""[7]: which conditions a script can have, and when they are true."""

import itertools
import random
import unittest

from seatedtwice.errors import BadScript
from seatedtwice.scenes import Scene
from seatedtwice.scripts import Script
from seatedtwice.worlds import World
from tests import plain, plain_texts
from tests.made import Maker

PLAIN = Scene("row one")
MARKED = Scene("row one\nrow two\nmark done")
LOTS = Scene("row one\nlots")
FULL = Scene("row one\nrow two\nmark done\nmark seen\nlots")
WORLD = World(FULL, "row one p q r\nrow two r q p\nmark done p q\nmark seen\nlot p r\nlot q")


def is_right(scene, condition, behind="if"):
    """Whether a script can have the condition."""
    lines = [f"if {condition}", "end"] if behind == "if" else [f"{behind} where {condition}"]
    try:
        Script(scene, "\n".join(["takes a b", *lines, "gives"]))
    except BadScript as error:
        assert error.line == 2
        return False
    return True


def is_true(condition, one, other, world=WORLD):
    """Whether a condition is true, with things or None in `a` and `b`."""
    yes = world["one"][0]
    script = Script(world.scene, f"takes a b\nif {condition}\nc = first one\nend\ngives c")
    told = script.run(world, [one, other])[0][0]
    assert told in (yes, None)
    return told == yes


def chosen(condition, one, other):
    """All things of the world for which a condition behind `where` is true, in the order of the first row."""
    lines = [f"c = first one where {condition}", f"d = next c one where {condition}", f"e = next d one where {condition}"]
    script = Script(FULL, "\n".join(["takes a b", *lines, "gives"]))
    held = list(script.steps(WORLD, [one, other]))[-1][1]
    return [held[name] for name in "cde" if name in held]


class Reading(unittest.TestCase):

    def test_each_part(self):
        for condition in ["a ahead b one", "a ahead a two", "a is b", "a is a", "a has done", "a has seen", "a with b",
                          "b with b", "a missing", "one ahead two one", "done has done", "new is two", "two missing"]:
            self.assertTrue(is_right(FULL, condition), condition)

    def test_it_behind_where_only(self):
        for condition in ["it ahead b one", "b ahead it two", "it ahead it one", "it is b", "a is it", "it has done",
                          "it with b", "a with it", "it missing", "not it missing", "( it missing )"]:
            for behind in ["a = next b one", "a = prev b one", "a = first one", "a = last one", "gather one"]:
                self.assertTrue(is_right(FULL, condition, behind), condition)
            self.assertFalse(is_right(FULL, condition), condition)

    def test_joined_parts(self):
        for condition in ["not a missing", "not not a missing", "a missing and b missing", "a missing or b missing",
                          "a missing and b missing and a is b", "a missing or not b missing and a is b",
                          "( a missing )", "( ( a missing ) )", "not ( a missing )", "( not a missing )",
                          "( a missing or b missing ) and ( a is b or not a has done )", "not ( not ( a missing ) )",
                          "( a missing and ( b missing or a is b ) )", "not a missing and not b missing"]:
            self.assertTrue(is_right(FULL, condition), condition)
            self.assertTrue(is_right(FULL, condition, "gather one"), condition)

    def test_wrong_conditions(self):
        for condition in ["", " ", "a", "missing", "a missing b", "a missing missing", "a b missing", "a ahead b",
                          "a ahead one", "ahead b one", "a ahead b three", "a ahead b done", "a ahead b one two", "a is",
                          "is a", "a is is b", "a is not b", "a is b c", "a is nothing", "nothing is a", "nothing missing",
                          "a has", "a has one", "a has more", "a has it", "a has done seen", "has done", "a with",
                          "a with lots", "a with b b", "with b", "a lot b", "a behind b one", "a = b", "a not missing",
                          "not", "not a", "a missing not", "and", "a missing and", "and a missing", "a missing and and b missing",
                          "a missing or", "or a missing", "a missing or and b missing", "a missing b missing",
                          "a missing, b missing", "a missing and not", "(", ")", "( )", "( a missing", "a missing )",
                          "( a ) missing", "(a missing)", "( a missing ) )", "( ( a missing )", ") a missing (",
                          "( a missing ) ( b missing )", "( a missing ) b missing", "a missing ( b missing )",
                          "not ( )", "not ( a missing", "( not ) a missing", "( a missing and ) b missing",
                          "( a missing ) not ( b missing )", "A missing", "a1 missing", "abcdefghijklm missing",
                          "if a missing", "where a missing", "else missing", "true", "a Missing", "a  missing",
                          "a missing ", " a missing", "( a missing  )", "a ahead  b one", "not  a missing",
                          "a missing  and b missing"]:
            for behind in ["if", "gather one", "c = next a one"]:
                self.assertFalse(is_right(FULL, condition, behind), condition)

    def test_all_and_some_are_for_sayings(self):
        for condition in ["all x ( x has done )", "some x ( x missing )", "all x y ( x is y )", "all", "some missing",
                          "not all x ( x missing )", "a missing and some x ( x has done )", "some x y ( x is y )"]:
            for behind in ["if", "gather one"]:
                self.assertFalse(is_right(FULL, condition, behind), condition)

    def test_has_without_marks_and_with_without_lots(self):
        for scene, has, lies in [(PLAIN, False, False), (MARKED, True, False), (LOTS, False, True), (FULL, True, True)]:
            self.assertIs(is_right(scene, "a has done"), has)
            self.assertIs(is_right(scene, "it has done", "gather one"), has)
            self.assertIs(is_right(scene, "a with b"), lies)
            self.assertIs(is_right(scene, "it with b", "gather one"), lies)
        self.assertFalse(is_right(PLAIN, "a has one"))
        self.assertFalse(is_right(MARKED, "a has seen"))

    def test_eight_parts_and_nine(self):
        for part in ["a missing", "a is b", "not a missing", "( a missing )", "a ahead b one"]:
            for word in ["and", "or"]:
                for many in range(1, 12):
                    condition = f" {word} ".join([part] * many)
                    self.assertIs(is_right(PLAIN, condition), many <= 8, condition)
                    self.assertIs(is_right(PLAIN, condition, "gather one"), many <= 8, condition)
        nested = "( a missing and ( b missing or ( a is b and a is b ) ) ) or ( not a missing and ( b missing or a is b ) )"
        self.assertTrue(is_right(PLAIN, nested + " and a missing"))
        self.assertFalse(is_right(PLAIN, nested + " and a missing or b missing"))

    def test_parts_are_counted_for_each_condition(self):
        eight = " or ".join(["a missing"] * 8)
        Script(PLAIN, f"takes a\nif {eight}\nif {eight}\nend\nend\nif {eight}\nend\nb = next a one where {eight}\ngives")

    def test_ten_open_and_eleven(self):
        for many in range(8, 13):
            for opened, closed in [("( " * many, " )" * many), ("not " * many, ""),
                                   ("not ( " * (many // 2) + "not " * (many % 2), " )" * (many // 2)),
                                   ("( not " * (many // 2) + "( " * (many % 2), " )" * (many // 2 + many % 2))]:
                condition = opened + "a missing" + closed
                self.assertIs(is_right(PLAIN, condition), many <= 10, condition)
                self.assertIs(is_right(PLAIN, f"b missing or {condition} and b missing"), many <= 10, condition)

    def test_a_not_is_open_until_the_part_or_bracket_behind_it_ends(self):
        nots = "not " * 10
        self.assertTrue(is_right(PLAIN, f"{nots}a missing and {nots}a missing or {nots}b missing"))
        self.assertTrue(is_right(PLAIN, f"{'( ' * 10}a missing{' )' * 10} and {nots}a missing"))
        self.assertTrue(is_right(PLAIN, f"not ( {'not ' * 8}a missing and {'not ' * 8}a missing ) and {nots}b missing"))
        self.assertFalse(is_right(PLAIN, f"not ( {'not ' * 8}a missing and {'not ' * 9}a missing )"))
        self.assertFalse(is_right(PLAIN, f"not ( {'not ' * 9}a missing )"))
        self.assertTrue(is_right(PLAIN, f"not ( a missing ) and {nots}b missing"))
        self.assertTrue(is_right(PLAIN, f"( not a missing and {'( ' * 9}b missing{' )' * 10}"))
        self.assertFalse(is_right(PLAIN, f"( not a missing and {'( ' * 10}b missing{' )' * 11}"))

    def test_all_short_rows_of_words(self):
        words = ["a", "is", "missing", "not", "and", "(", ")", "it"]
        scene = plain.Scene(PLAIN.text)
        right = 0
        for many in range(1, 6):
            for told in itertools.product(words, repeat=many):
                condition = " ".join(told)
                for behind, has_it in [("if", False), ("gather one", True)]:
                    want = plain_texts.condition_is_right(scene, condition, has_it)
                    self.assertIs(is_right(PLAIN, condition, behind), want, condition)
                    right += want
        self.assertGreater(right, 40)


class Truth(unittest.TestCase):

    def check(self, condition, pairs):
        """The condition is true for exactly these pairs of `a` and `b`."""
        for one, other in itertools.product([None, "p", "q", "r"], repeat=2):
            want = f"{one or '-'}{other or '-'}" in pairs.split(" ")
            self.assertIs(is_true(condition, one, other), want, (condition, one, other))

    def test_ahead(self):
        self.check("a ahead b one", "pq pr qr")
        self.check("a ahead b two", "rq rp qp")
        self.check("b ahead a one", "qp rp rq")
        self.check("a ahead a one", "")

    def test_is(self):
        self.check("a is b", "pp qq rr")
        self.check("a is a", "p- pp pq pr q- qp qq qr r- rp rq rr")

    def test_has(self):
        self.check("a has done", "p- pp pq pr q- qp qq qr")
        self.check("b has seen", "")

    def test_with(self):
        self.check("a with b", "pp pr rp rr qq")
        self.check("b with b", "-p -q -r pp pq pr qp qq qr rp rq rr")

    def test_missing(self):
        self.check("a missing", "-- -p -q -r")
        self.check("b missing", "-- p- q- r-")

    def test_registers_that_were_never_given_anything(self):
        self.check("c missing", "-- -p -q -r p- pp pq pr q- qp qq qr r- rp rq rr")
        for condition in ["c is c", "c is a", "a is c", "c has done", "c with c", "a with c", "c ahead a one",
                          "a ahead c one"]:
            self.check(condition, "")

    def test_nothing_makes_a_part_false_and_not_makes_it_true(self):
        for condition in ["a ahead b one", "a is b", "a has done", "a with b"]:
            self.assertFalse(is_true(condition, None, None))
            self.assertTrue(is_true("not " + condition, None, None))
            self.assertFalse(is_true("not not " + condition, None, None))

    def test_and_or_not(self):
        self.check("a missing and b missing", "--")
        self.check("a missing or b missing", "-- -p -q -r p- q- r-")
        self.check("not a is b", "-- -p -q -r p- pq pr q- qp qr r- rp rq")
        self.check("a is b and a has done", "pp qq")
        self.check("not ( a missing or b missing )", "pp pq pr qp qq qr rp rq rr")

    def test_not_binds_before_and_and_and_before_or(self):
        parts = ["a has done", "a is b", "b has done", "a missing"]
        values = {pair: [is_true(part, *pair) for part in parts]
                  for pair in itertools.product([None, "p", "q", "r"], repeat=2)}
        for first, second in itertools.product(["and", "or"], repeat=2):
            for nots in itertools.product(["", "not "], repeat=3):
                told = [sign + part for sign, part in zip(nots, parts)]
                condition = f"{told[0]} {first} {told[1]} {second} {told[2]}"
                for pair, (one, two, three, _) in values.items():
                    one, two, three = [not value if sign else value for sign, value in zip(nots, (one, two, three))]
                    if first == "and":
                        want = (one and two) and three if second == "and" else (one and two) or three
                    else:
                        want = one or (two and three) if second == "and" else one or (two or three)
                    self.assertIs(is_true(condition, *pair), want, (condition, pair))

    def test_brackets(self):
        self.check("( a missing or b missing ) and a has done", "p- q-")
        self.check("a missing or b missing and a has done", "-- -p -q -r p- q-")
        self.check("a missing or ( b missing and a has done )", "-- -p -q -r p- q-")
        self.check("not a missing and b missing", "p- q- r-")
        self.check("not ( a missing and b missing )", "-p -q -r p- pp pq pr q- qp qq qr r- rp rq rr")

    def test_it(self):
        self.assertEqual(chosen("it ahead a one", "r", None), ["p", "q"])
        self.assertEqual(chosen("a ahead it one", "p", None), ["q", "r"])
        self.assertEqual(chosen("it ahead a two", "p", None), ["q", "r"])
        self.assertEqual(chosen("it ahead it one", "p", None), [])
        self.assertEqual(chosen("it is a or it is b", "r", "p"), ["p", "r"])
        self.assertEqual(chosen("it has done", None, None), ["p", "q"])
        self.assertEqual(chosen("it with a", "r", None), ["p", "r"])
        self.assertEqual(chosen("it missing", "p", "q"), [])
        self.assertEqual(chosen("not it missing", None, None), ["p", "q", "r"])
        self.assertEqual(chosen("a missing", None, None), ["p", "q", "r"])
        self.assertEqual(chosen("a missing", "p", None), [])
        self.assertEqual(chosen("it is it", None, None), ["p", "q", "r"])

    def test_conditions_against_a_plain_reading(self):
        source = random.Random(7)
        maker = Maker(source, FULL.text)
        maker.known = ["a", "b"]
        scene = plain.Scene(FULL.text)
        told = {True: 0, False: 0}
        for _ in range(700):
            condition = maker.condition(False, 3)
            if not is_right(FULL, condition):
                self.assertGreater(condition.count(" missing") + condition.count(" is ") + condition.count(" with ")
                                   + condition.count(" has ") + condition.count(" ahead "), 8)
                continue
            text = maker.world(3)
            world, things = World(FULL, text), [None, *text.split("\n")[0].split(" ")[2:]]
            for one, other in itertools.product(things, repeat=2):
                run = plain.Run(scene, "takes a b\ngives a", plain.read_world(scene, text), (one, other))
                want = run.is_true(condition.split(" "))
                self.assertIs(is_true(condition, one, other, world), want, (condition, text, one, other))
                told[want] += 1
        self.assertGreater(min(told.values()), 2000)


if __name__ == "__main__":
    unittest.main()
