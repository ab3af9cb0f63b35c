"""States: how things stand at some point of a run, what the registers hold, and where the run is."""

# What a condition behind `where` asks about is held under this word, which is no name of a register.
IT = "it"

# How blocks are read: as they are in this world, or as more things could make them to let a saying be true, or false.
PLAINLY = 0
FOR_TRUE = 1
FOR_FALSE = 2


class State:
    """A state of a run that has just begun: its parts are copied and then changed by the lines of the script."""

    def __init__(self, parts, held, things):
        self.parts = dict(parts)
        self.held = dict(held)
        # All things of the world, in any order.
        self.things = things
        # Whether what is asked for before the run is true.
        self.begins_right = True
        self.hope = PLAINLY
        # The index of the line that comes next; the line `takes` is done.
        self.line = 1
        # How often the open `times` blocks are still to be done, the outermost one first.
        self.left = []
        # What the walks gave.
        self.walked = []
        self.changes = 0
        self._places = {}

    def holding(self):
        """A dict from the registers that hold a thing to the thing."""
        return {name: thing for name, thing in self.held.items() if thing is not None}

    def change(self, name, part):
        """A row or a mark becomes another one."""
        self.parts[name] = part
        self.changes += 1
        self._places.pop(name, None)

    def places(self, row):
        """A dict from each thing to its place in a row; it is kept until the row changes."""
        if row not in self._places:
            self._places[row] = {thing: at for at, thing in enumerate(self.parts[row])}
        return self._places[row]

    def has_two(self, name, other):
        """Whether the registers hold two different things."""
        one, two = self.held.get(name), self.held.get(other)
        return one is not None and two is not None and one != two

    def ahead_of(self, name, row):
        """The things that stand before that of a register in a row, the nearest one first."""
        thing = self.held.get(name)
        if thing is None:
            return []
        order = self.parts[row]
        return order[:order.index(thing)][::-1]

    def behind(self, name, row):
        """The things that stand behind that of a register in a row."""
        thing = self.held.get(name)
        if thing is None:
            return []
        order = self.parts[row]
        return order[order.index(thing) + 1:]

    def walk(self, name, things, condition):
        """A register becomes the first one of these things for which the condition, if there is one, is true."""
        found = None
        for thing in things:
            self.held[IT] = thing
            if condition is None or condition(self):
                found = thing
                break
        self.held[IT] = None
        self.held[name] = found
        self.walked.append(found)

    def wanted(self, things, condition):
        """A list of those of the things for which the condition is true."""
        found = []
        for thing in things:
            self.held[IT] = thing
            if condition(self):
                found.append(thing)
        self.held[IT] = None
        return found

    def finds(self, name, condition, sought):
        """Whether for a thing, while a bound name stands for it, the condition is as it is sought: true or false."""
        kept = self.held.get(name)
        found = False
        for thing in self.things:
            self.held[name] = thing
            if condition(self) == sought:
                found = True
                break
        self.held[name] = kept
        return found


def first_comings(things):
    """A list of the things, each one once, in the order of their first coming; None is no thing."""
    return list({thing: True for thing in things if thing is not None})
