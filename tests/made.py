"""Scripts and worlds that tests make by a seeded random source: the same ones at each run."""

from tests import plain, plain_sayings

NAMES = ["a", "b", "c", "one", "done"]


class Maker:
    """Makes texts over a scene."""

    def __init__(self, random, scene_text):
        self.random = random
        self.scene = plain.Scene(scene_text)
        # The registers that may hold something: most names are taken from here.
        self.known = []

    def name(self):
        return self.random.choice(self.known * 3 + NAMES[:3])

    def new_name(self):
        self.known.append(self.random.choice(NAMES))
        return self.known[-1]

    def part(self, has_it):
        one, other = ["it", self.name()] if has_it else [self.name(), self.name()]
        if self.random.randrange(3) == 0:
            one, other = other, one
        if self.random.randrange(8) == 0:
            other = one
        kinds = [f"{one} ahead {other} {self.random.choice(self.scene.rows)}", f"{one} is {other}", f"{one} missing"]
        if self.scene.marks:
            kinds += [f"{one} has {self.random.choice(self.scene.marks)}"] * 2
        if self.scene.has_lots:
            kinds += [f"{one} with {other}"] * 2
        return self.random.choice(kinds)

    def condition(self, has_it, depth=2):
        kind = self.random.randrange(6) if depth else 0
        if kind < 3:
            return self.part(has_it)
        if kind == 3:
            return "not " + self.condition(has_it, depth - 1)
        if kind == 4:
            return f"( {self.condition(has_it, depth - 1)} )"
        word = self.random.choice(["and", "or"])
        return f"{self.condition(has_it, depth - 1)} {word} {self.condition(has_it, depth - 1)}"

    def walk(self):
        row = self.random.choice(self.scene.rows)
        word = self.random.choice(["next", "prev", "next", "prev", "first", "last"])
        line = f"{word} {self.name()} {row}" if word in ("next", "prev") else f"{word} {row}"
        line += self.random.choice(["", " where " + self.condition(True)])
        return f"{self.new_name()} = {line}"

    def deed(self):
        name, other = self.name(), self.name()
        row, rows = self.random.choice(self.scene.rows), self.scene.rows
        kinds = [f"put {name} behind {other} {row}", f"put {name} ahead {other} {row}", f"swap {name} {other} {row}",
                 f"turn {row}", f"sort {row} by {self.random.choice(rows)}", f"gather {row} where {self.condition(True)}"]
        if self.scene.marks:
            kinds += [f"{word} {name} {self.random.choice(self.scene.marks)}" for word in ("mark", "unmark")]
        return self.random.choice(kinds)

    def lines(self, many, deeds=True, depth=8):
        """Some lines with the blocks that they open, not too many within one another."""
        told = []
        while many > 0:
            many -= 1
            kind = self.random.randrange(10)
            if kind < 4:
                told.append(self.walk())
            elif kind < 7 and deeds:
                told.append(self.deed())
            elif kind < 8 or depth == 0:
                told.append(f"{self.random.choice(NAMES)} = {self.random.choice([self.name(), self.name(), 'nothing'])}")
            elif kind == 8:
                told += [f"if {self.condition(False)}", *self.lines(self.random.randrange(3), deeds, depth - 1)]
                if self.random.randrange(2):
                    told += ["else", *self.lines(self.random.randrange(3), deeds, depth - 1)]
                told.append("end")
            else:
                lines = self.lines(self.random.randrange(3), deeds, depth - 1)
                told += [f"times {self.random.randrange(1, 4)}", *lines, "end"]
        return told

    def script(self, takes, gives, many, most_walks, deeds=True):
        """A script with so many inputs and outputs, and at most so many walks on a way."""
        while True:
            names = self.random.sample(["a", "b"], takes)
            self.known = list(names)
            lines = [" ".join(["takes", *names]), *self.lines(many, deeds)]
            lines.append(" ".join(["gives", *[self.name() for _ in range(gives)]]))
            if len(lines) <= 60 and plain.walks("\n".join(lines)) <= most_walks:
                return "\n".join(lines)

    def changed(self, text):
        """The script with something changed that may or may not matter."""
        lines = text.split("\n")
        at = self.random.randrange(1, len(lines))
        kind = self.random.randrange(5)
        if kind == 0 and at < len(lines) - 1 and lines[at].split(" ")[0] not in ("if", "else", "times", "end"):
            del lines[at]
        elif kind == 1:
            lines[at:at] = [self.deed()]
        elif kind == 2:
            lines[at:at] = [f"if {self.condition(False)}", "end"]
        elif kind == 3:
            lines[at:at] = [f"e = {self.random.choice(NAMES)}"]
        elif kind == 4:
            lines = [line + f" and {self.part(' where ' in line)}" if " where " in line or line[:3] == "if " else line
                     for line in lines]
        return "\n".join(lines)

    def block(self, most, is_bare):
        """`all` or `some` with at most so many bound names, which may be names of registers."""
        names = self.random.sample(["x", "y", "a"], self.random.randrange(min(most, 2)) + 1)
        known = self.known
        if is_bare or self.random.randrange(2):
            parts = [self.bound_part(names) for _ in range(self.random.choice([1, 2, 2, 3]))]
            condition = self.put_together(parts)
        else:
            self.known = known + names * 3
            condition = self.condition(False)
        self.known = known
        return " ".join([self.random.choice(["all", "some"]), *names, "(", condition, ")"])

    def bound_part(self, names):
        """A part about bound names: with two of them mostly about both."""
        one, other = self.random.sample(names * 2, 2) if len(names) == 1 else self.random.sample(names, 2)
        kinds = [f"{one} ahead {other} {row}" for row in self.scene.rows] * 2 + [f"{one} is {other}"]
        kinds += [f"{one} has {mark}" for mark in self.scene.marks] * (4 if len(names) == 1 else 1)
        if self.scene.has_lots:
            kinds += [f"{one} with {other}"] * 2
        return self.random.choice(kinds)

    def put_together(self, parts):
        """A condition of these parts."""
        text = self.random.choice(["", "not "]) + parts[0]
        for part in parts[1:]:
            text += f" {self.random.choice(['and', 'or'])} {self.random.choice(['', 'not '])}{part}"
            if self.random.randrange(4) == 0:
                text = self.random.choice(["( {} )", "not ( {} )"]).format(text)
        return text

    def saying(self, most, is_bare=False):
        """A saying whose blocks have at most so many bound names; it has a block if it is to be bare."""
        parts = [self.block(most, is_bare)] if most else []
        for _ in range(self.random.choice([0, 0, 1, 2])):
            left = most - sum(plain_sayings.bound_names(part) for part in parts)
            if left and (is_bare or self.random.randrange(3)):
                parts.append(self.block(left, is_bare))
            elif not is_bare:
                parts.append(self.part(False))
        return self.put_together(parts or [self.part(False)])

    def world(self, many):
        """The text of a world of so many things with names that are no letters of a form."""
        things = [f"q{plain.LETTERS[at // 26]}{plain.LETTERS[at % 26]}" for at in range(many)]
        lines = [["row", row, *self.random.sample(things, many)] for row in self.scene.rows]
        lines += [["mark", mark, *[thing for thing in things if self.random.randrange(2)]] for mark in self.scene.marks]
        if self.scene.has_lots:
            lots = {}
            for thing in things:
                lots.setdefault(self.random.randrange(many), []).append(thing)
            lines += [["lot", *lot] for lot in lots.values()]
        return "\n".join([" ".join(line) for line in lines])

    def inputs(self, world_text, many):
        things = world_text.split("\n")[0].split(" ")[2:]
        return [self.random.choice([None, *things, *things]) for _ in range(many)]


WORDS = """takes gives a b it is has with ahead behind missing not and or ( ) where one two done if else end times 1 5 6 0 =
next prev first last nothing put swap turn sort by gather mark unmark lot lots row all some x aaaaaaaaaaaaa A""".split()


def spoiled(random, text):
    """The text with a word or a line put in, taken out, doubled or exchanged; perhaps it is still good."""
    lines = text.split("\n")
    at, other = random.randrange(len(lines)), random.randrange(len(lines))
    words = lines[at].split(" ")
    word, to = random.randrange(len(words)), random.randrange(len(words))
    kind = random.randrange(11)
    if kind == 0:
        words.insert(random.randrange(len(words) + 1), random.choice(WORDS))
    elif kind == 1:
        del words[word]
    elif kind == 2:
        words.insert(word, words[word])
    elif kind == 3:
        words[word] = random.choice(WORDS)
    elif kind == 4:
        words[word], words[to] = words[to], words[word]
    elif kind == 5:
        words.insert(random.randrange(len(words) + 1), "")
    lines[at] = " ".join(words)
    if kind == 6:
        del lines[at]
    elif kind == 7:
        lines.insert(at, lines[other])
    elif kind == 8:
        lines[at], lines[other] = lines[other], lines[at]
    elif kind == 9:
        lines = lines[:at]
    elif kind == 10:
        lines.insert(at, "")
    return "\n".join(lines)
