"""[3] and [4]: the first wrong line, told from all good texts instead of by a reader.

A line is wrong if no good text begins with the lines up to it; if there is none, but the text is not good, lines are
lacking.
"""

import itertools
import unittest

from seatedtwice.errors import BadScene, BadWorld
from seatedtwice.scenes import Scene
from seatedtwice.worlds import World


def good_scenes(names):
    """The lines of all good scenes with names among these."""
    for rows, marks in itertools.product((1, 2, 3), (0, 1, 2)):
        for used in itertools.permutations(names, rows + marks):
            lines = [f"row {name}" for name in used[:rows]] + [f"mark {name}" for name in used[rows:]]
            yield tuple(lines)
            yield (*lines, "lots")


def groupings(names):
    """All ways to tell names as lots: the lots in each order, the names of each in each order."""
    if not names:
        yield ()
    for many in range(1, len(names) + 1):
        for lot in itertools.permutations(names, many):
            for rest in groupings([name for name in names if name not in lot]):
                yield (lot, *rest)


def good_worlds(scene, names):
    """The lines of all good texts of worlds with things among these names."""
    for many in range(len(names) + 1):
        for things in itertools.permutations(names, many):
            rows = [[("row", scene.rows[0], *things)]]
            rows += [[("row", row, *order) for order in itertools.permutations(things)] for row in scene.rows[1:]]
            marks = [[("mark", mark, *borne) for count in range(many + 1)
                      for borne in itertools.permutations(things, count)] for mark in scene.marks]
            for lines in itertools.product(*rows, *marks):
                for lots in groupings(list(things)) if scene.has_lots else [()]:
                    told = [*lines, *[("lot", *lot) for lot in lots]]
                    yield tuple(" ".join(words) for words in told)


class FirstWrongLine(unittest.TestCase):

    def check(self, read, error, good, pool, behind):
        """Each beginning of a good text, and each one with a line of the pool, and with more lines behind that."""
        good = set(good)
        beginnings = {lines[:many] for lines in good for many in range(len(lines) + 1)}
        texts = 0
        for lines in sorted(beginnings):
            self.assertEqual(line_of(read, error, lines), None if lines in good and lines else len(lines) + 1)
            for line in pool:
                longer = (*lines, line)
                if longer in beginnings or longer == ("",):
                    continue
                texts += 1
                self.assertEqual(line_of(read, error, longer), len(longer), longer)
                for last in behind:
                    self.assertEqual(line_of(read, error, (*longer, last)), len(longer), longer)
        return texts

    def test_scenes(self):
        pool = ["", " ", "lots", "lots a", "row", "mark", "row if", "mark if", "row a b", "mark a b"]
        pool += [f"{word} {name}" for word in ("row", "mark", "lots") for name in "abcdef"]
        texts = self.check(lambda lines: Scene("\n".join(lines)), BadScene, good_scenes("abcdef"), pool,
                           ["row f", "mark f", "lots", ""])
        self.assertGreater(texts, 30000)

    def test_worlds(self):
        endings = [" ".join(["", *names]) for many in range(4) for names in itertools.product("pqx", repeat=many)]
        for text in ["row one", "row one\nrow two", "row one\nmark done", "row one\nlots", "row one\nrow two\nlots",
                     "row one\nrow two\nmark done\nlots"]:
            scene = Scene(text)
            heads = ["", "row one", "row two", "mark done", "lot", "row", "mark", "lots"]
            pool = [head + ending for head in heads for ending in endings[1:]] + heads
            known = [line for line in pool if "x" not in line or not line.startswith("row one")]
            texts = self.check(lambda lines: World(scene, "\n".join(lines)), BadWorld,
                               good_worlds(scene, "pq"), known, ["lot p", "row two p", ""])
            self.assertGreater(texts, 1000)


def line_of(read, error, lines):
    """The line of the error that reading raises, or None."""
    try:
        read(lines)
    except error as caught:
        return caught.line
    return None


if __name__ == "__main__":
    unittest.main()
