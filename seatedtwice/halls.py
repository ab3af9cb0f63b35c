"""Halls: a world with buttons that change it and guards that stand against that."""

from seatedtwice.errors import BadName, Barred, NoButton, NoGuard, NotBare, NothingToUndo, OtherScene, Taken
from seatedtwice.names import is_name


class Hall:
    """A hall, whose changes can be undone."""

    def __init__(self, world):
        self._now = Moment(world, {}, {}, None)

    @property
    def world(self):
        """The world of the hall as it is now."""
        return self._now.present

    def __getitem__(self, at):
        """The script of a button."""
        if at not in self._now.buttons:
            raise NoButton(at)
        return self._now.buttons[at]

    def __setitem__(self, at, worth):
        """Keep a script as a button, in the place of an earlier one."""
        if not is_name(at):
            raise BadName(at)
        self._check_scene(worth)
        self._go_on(self._now.present, {**self._now.buttons, at: worth}, self._now.sayings)

    def __iter__(self):
        raise TypeError("a hall is not iterated over")

    def __contains__(self, x):
        return x in self._now.buttons

    def __len__(self):
        return len(self._now.buttons)

    def drop(self, name):
        """Take a button away."""
        if name not in self._now.buttons:
            raise NoButton(name)
        self._go_on(self._now.present, without(self._now.buttons, name), self._now.sayings)

    def press(self, name, inputs):
        """Do a run of the script of a button, unless a guard would be false behind it; returns the outputs."""
        if name not in self._now.buttons:
            raise NoButton(name)
        outputs, world = self._now.buttons[name].run(self._now.present, inputs)
        self._check_guards(self._now.sayings, world)
        self._go_on(world, self._now.buttons, self._now.sayings)
        return outputs

    def add_guard(self, name, saying):
        """Keep a bare saying as a guard; it must be true now."""
        if not is_name(name):
            raise BadName(name)
        if name in self._now.sayings:
            raise Taken(name)
        if not saying.is_bare:
            raise NotBare(0)
        self._check_scene(saying)
        self._check_guards({name: saying}, self._now.present)
        self._go_on(self._now.present, self._now.buttons, {**self._now.sayings, name: saying})

    def drop_guard(self, name):
        """Take a guard away."""
        if name not in self._now.sayings:
            raise NoGuard(name)
        self._go_on(self._now.present, self._now.buttons, without(self._now.sayings, name))

    def guards(self):
        """A list of the names of the guards in ascending order."""
        return sorted([str(name) for name in self._now.sayings])

    def undo(self):
        """Undo the latest change that is not undone."""
        if self._now.before is None:
            raise NothingToUndo()
        self._now = self._now.before

    def attempt(self, action):
        """Call action(hall); if that ends with an error, all is as it was before."""
        begun = self._now
        is_done = None
        try:
            told = action(self)
            is_done = True
        finally:
            if is_done is None:
                self._now = begun
        return told

    def _check_scene(self, other):
        """A script or saying must be over the scene of the world."""
        if not other.scene == self._now.present.scene:
            raise OtherScene()

    def _check_guards(self, sayings, world):
        """All of these guards must be true in a world."""
        names = [name for name, saying in sayings.items() if not saying.holds(world, {})]
        if names:
            raise Barred(sorted([str(name) for name in names]))

    def _go_on(self, world, buttons, sayings):
        """A change: from now on the hall is like this."""
        self._now = Moment(world, buttons, sayings, self._now)


class Moment:
    """What a hall is between two changes, and the moment before; it never changes, nor do its dicts."""

    def __init__(self, present, buttons, sayings, before):
        self.present = present
        self.buttons = buttons
        self.sayings = sayings
        self.before = before


def without(table, name):
    """The dict without a key."""
    return {other: value for other, value in table.items() if other != name}
