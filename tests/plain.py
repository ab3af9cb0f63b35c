"""A plain reading of DOC.md for scripts: no code of the package, no short cuts, all small worlds and all inputs tried.

A world is a dict: under each row a list of things, under each mark a set, under `lots` a dict from things to numbers.
"""

import itertools
import string

LETTERS = string.ascii_lowercase


class Scene:
    """Rows, marks and lots of a scene, by its text."""

    def __init__(self, text):
        words = [line.split(" ") for line in text.split("\n")]
        self.text = text
        self.rows = [line[1] for line in words if line[0] == "row"]
        self.marks = [line[1] for line in words if line[0] == "mark"]
        self.has_lots = words[-1] == ["lots"]


def read_world(scene, text):
    world = {}
    lots = []
    for line in text.split("\n"):
        word, *rest = line.split(" ")
        if word == "lot":
            lots.append(rest)
        else:
            world[rest[0]] = rest[1:] if word == "row" else set(rest[1:])
    if scene.has_lots:
        world["lots"] = {thing: at for at, lot in enumerate(lots) for thing in lot}
    return world


def write_world(scene, world):
    order = world[scene.rows[0]]
    lines = [["row", row, *world[row]] for row in scene.rows]
    lines += [["mark", mark, *[thing for thing in order if thing in world[mark]]] for mark in scene.marks]
    if scene.has_lots:
        lots = {}
        for thing in order:
            lots.setdefault(world["lots"][thing], []).append(thing)
        lines += [["lot", *lot] for lot in lots.values()]
    return "\n".join([" ".join(line) for line in lines])


def renamed(scene, world, names):
    """The world with new names; things without one are left out."""
    new = {row: [names[thing] for thing in world[row] if thing in names] for row in scene.rows}
    for mark in scene.marks:
        new[mark] = {names[thing] for thing in world[mark] if thing in names}
    if scene.has_lots:
        new["lots"] = {names[thing]: lot for thing, lot in world["lots"].items() if thing in names}
    return new


def form_names(scene, world, kept=None):
    """The names that the form gives to the things, or to those that are kept."""
    return dict(zip([thing for thing in world[scene.rows[0]] if kept is None or thing in kept], LETTERS))


def partitions(things):
    """All ways to lay things into lots, as dicts from things to numbers."""
    told = [{}]
    for thing in things:
        told = [{**lots, thing: lot} for lots in told for lot in range(len(set(lots.values())) + 1)]
    return told


def subsets(things):
    return [set(some) for many in range(len(things) + 1) for some in itertools.combinations(things, many)]


def all_worlds(scene, many):
    """All worlds of so many things that are their own forms."""
    things = list(LETTERS[:many])
    orders = [list(order) for order in itertools.permutations(things)]
    keys = [*scene.rows, *scene.marks, *["lots"] * scene.has_lots]
    values = [[things]] + [orders] * (len(scene.rows) - 1) + [subsets(things)] * len(scene.marks)
    if scene.has_lots:
        values.append(partitions(things))
    for told in itertools.product(*values):
        yield dict(zip(keys, told))


def all_inputs(many_things, many):
    return list(itertools.product([None, *LETTERS[:many_things]], repeat=many))


# Scripts.

class Run:
    """A run of a script in a world."""

    def __init__(self, scene, text, world, inputs):
        self.scene = scene
        self.lines = [line.split(" ") for line in text.split("\n")]
        self.world = {key: value.copy() for key, value in world.items()}
        self.held = dict(zip(self.lines[0][1:], inputs))
        self.walked = []
        self.steps = [(1, self.registers(), write_world(scene, self.world))]
        self.do(1, len(self.lines) - 1)
        self.outputs = tuple(self.held.get(name) for name in self.lines[-1][1:])
        self.visited = []
        for thing in [*inputs, *self.walked]:
            if thing is not None and thing not in self.visited:
                self.visited.append(thing)

    def registers(self):
        return {name: thing for name, thing in self.held.items() if thing is not None}

    def do(self, start, end):
        """The lines from start to before end."""
        at = start
        while at < end:
            words = self.lines[at]
            if words[0] in ("if", "times"):
                middle, close = block_ends(self.lines, at)
                if words[0] == "times":
                    for _ in range(int(words[1])):
                        self.do(at + 1, close)
                elif self.is_true(words[1:]):
                    self.do(at + 1, close if middle is None else middle)
                elif middle is not None:
                    self.do(middle + 1, close)
                at = close + 1
            else:
                self.do_line(words)
                self.steps.append((at + 1, self.registers(), write_world(self.scene, self.world)))
                at += 1

    def do_line(self, words):
        if words[1] == "=":
            self.held[words[0]] = self.value(words[2:])
        else:
            getattr(self, words[0])(*words[1:])

    def value(self, words):
        if words[0] == "nothing":
            return None
        if len(words) == 1:
            return self.held.get(words[0])
        condition = words[words.index("where") + 1:] if "where" in words else None
        if words[0] in ("first", "last"):
            found = list(self.world[words[1]])
        else:
            start = self.held.get(words[1])
            order = self.world[words[2]]
            if start is None:
                found = []
            elif words[0] == "next":
                found = order[order.index(start) + 1:]
            else:
                found = order[:order.index(start)]
        if words[0] in ("prev", "last"):
            found = found[::-1]
        wanted = [thing for thing in found if condition is None or self.is_true(condition, thing)]
        self.walked.append(wanted[0] if wanted else None)
        return self.walked[-1]

    def is_true(self, words, it=None):
        """Python's own `not`, `and`, `or` and brackets bind as those of the document."""
        code = []
        words = list(words)
        while words:
            word = words.pop(0)
            if word in ("not", "and", "or", "(", ")"):
                code.append(word)
                continue
            verb = words.pop(0)
            rest = [words.pop(0) for _ in range({"ahead": 2, "missing": 0}.get(verb, 1))]
            code.append(str(self.part(word, verb, rest, it)))
        return eval(" ".join(code))

    def part(self, name, verb, rest, it):
        one = it if name == "it" else self.held.get(name)
        if verb == "missing":
            return one is None
        if verb == "has":
            return one in self.world[rest[0]]
        other = it if rest[0] == "it" else self.held.get(rest[0])
        if one is None or other is None:
            return False
        if verb == "is":
            return one == other
        if verb == "with":
            return self.world["lots"][one] == self.world["lots"][other]
        order = self.world[rest[1]]
        return order.index(one) < order.index(other)

    def put(self, name, side, other, row):
        one, other = self.held.get(name), self.held.get(other)
        order = self.world[row]
        if one is None or other is None or one == other:
            return
        order.remove(one)
        order.insert(order.index(other) + (side == "behind"), one)

    def swap(self, name, other, row):
        one, other = self.held.get(name), self.held.get(other)
        order = self.world[row]
        if one is None or other is None or one == other:
            return
        at, to = order.index(one), order.index(other)
        order[at], order[to] = other, one

    def turn(self, row):
        self.world[row] = list(reversed(self.world[row]))

    def sort(self, row, _, other):
        self.world[row] = list(self.world[other])

    def gather(self, row, _, *condition):
        told = {thing: self.is_true(condition, thing) for thing in self.world[row]}
        self.world[row] = sorted(self.world[row], key=lambda thing: not told[thing])

    def mark(self, name, mark):
        if self.held.get(name) is not None:
            self.world[mark].add(self.held[name])

    def unmark(self, name, mark):
        self.world[mark].discard(self.held.get(name))


def block_ends(lines, at):
    """(middle, close): the indexes of the `else`, or None, and of the `end` of the block that a line opens."""
    depth = 0
    middle = None
    for k in range(at + 1, len(lines)):
        word = lines[k][0]
        if word == "end" and depth == 0:
            return middle, k
        if word == "else" and depth == 0:
            middle = k
        depth += {"if": 1, "times": 1, "end": -1}.get(word, 0)
    raise AssertionError("no end")


def walks(text):
    """The walks on a way: all ways are gone."""
    lines = [line.split(" ") for line in text.split("\n")]

    def most(start, end):
        total = 0
        at = start
        while at < end:
            words = lines[at]
            if words[0] in ("if", "times"):
                middle, close = block_ends(lines, at)
                if words[0] == "times":
                    total += int(words[1]) * most(at + 1, close)
                else:
                    total += max(most(at + 1, middle or close), most(middle, close) if middle else 0)
                at = close
            elif words[1:2] == ["="] and words[2] in ("next", "prev", "first", "last"):
                total += 1
            at += 1
        return total

    return most(1, len(lines) - 1)


# What the searches must find.

def fewest(scene, most, many_inputs, shows):
    """The fewest things of a world in which, with some inputs, `shows(world, inputs)` is true, or None."""
    for many in range(most + 1):
        for world in all_worlds(scene, many):
            for inputs in all_inputs(many, many_inputs):
                if shows(world, inputs):
                    return many
    return None


def bound(one, two):
    """The inputs once, the walks of both."""
    return len(one.split("\n")[0].split(" ")) - 1 + walks(one) + walks(two)


def parts(scene, one, two, world, inputs):
    return Run(scene, one, world, inputs).outputs != Run(scene, two, world, inputs).outputs


def goes_beyond(scene, one, two, world, inputs):
    outputs = Run(scene, one, world, inputs).outputs
    return None not in outputs and outputs != Run(scene, two, world, inputs).outputs


def leaves(scene, one, two, world, inputs):
    return Run(scene, one, world, inputs).world != Run(scene, two, world, inputs).world


def other_worlds(scene, world, name):
    """All worlds with the same things that differ from the world in a row, a mark or the lots alone."""
    things = world[scene.rows[0]]
    if name in scene.rows:
        values = [list(order) for order in itertools.permutations(things)]
    elif name == "lots":
        values = partitions(things)
    else:
        values = subsets(things)
    return [{**world, name: value} for value in values]


def hangs(scene, text, name, world, inputs):
    outputs = Run(scene, text, world, inputs).outputs
    return any(Run(scene, text, other, inputs).outputs != outputs for other in other_worlds(scene, world, name))


def case_of(scene, text, world, inputs):
    """(text of the world, inputs, outputs)."""
    run = Run(scene, text, world, inputs)
    names = form_names(scene, world, run.visited)
    told = [tuple(names.get(thing) for thing in things) for things in (inputs, run.outputs)]
    return (write_world(scene, renamed(scene, world, names)), *told)


def cases(scene, text):
    many_inputs = len(text.split("\n")[0].split(" ")) - 1
    found = set()
    for many in range(many_inputs + walks(text) + 1):
        for world in all_worlds(scene, many):
            for inputs in all_inputs(many, many_inputs):
                found.add(case_of(scene, text, world, inputs))
    return sorted(found, key=lambda case: (len(case[0].split("\n")[0].split(" ")), case[0],
                                           [(thing is not None, thing or "") for thing in case[1]]))
