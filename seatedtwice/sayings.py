"""Sayings: reading them, asking whether they are true in a world, and what scripts do to them."""

from seatedtwice.blocks import SayingReader
from seatedtwice.breaches import first_breach
from seatedtwice.errors import NoThing, OtherScene
from seatedtwice.parts import parts_of
from seatedtwice.shown import told
from seatedtwice.states import State


class Saying:
    """A saying over a scene. It never changes."""

    def __init__(self, scene, text):
        reader = SayingReader(scene, text.split(" "))
        self.scene = scene
        self.text = text
        self._condition = reader.whole()
        self.is_bare = reader.is_bare
        # The names of the rows and marks (and `lots`) that it asks.
        self.asked = reader.asked
        self.needed = reader.needed

    def holds(self, world, registers):
        """Whether it is true in a world, for a dict from names of registers to things or None."""
        for thing in sorted([str(name) for name in registers.values() if name is not None]):
            if thing not in world:
                raise NoThing(thing)
        if not self.scene == world.scene:
            raise OtherScene()
        parts = parts_of(world)
        return self.is_true(State(parts, registers, parts[self.scene.rows[0]]))

    def is_true(self, state):
        """Whether it is true in a state."""
        condition = self._condition
        return condition(state)


def breaking(script, saying):
    """None if a saying always holds behind a script, otherwise a tuple (world, inputs) that shows that it does not."""
    return shown_breach(script, [], saying)


def always(script, saying):
    """Whether a saying always holds behind a script."""
    return breaking(script, saying) is None


def breach(first, script, then):
    """None if a script keeps the first saying and comes to the other one, otherwise a tuple (world, inputs)."""
    if not first.scene == script.scene:
        raise OtherScene()
    return shown_breach(script, [first], then)


def keeps(first, script, then):
    """Whether a script keeps the first saying and comes to the other one."""
    return breach(first, script, then) is None


def shown_breach(script, before, saying):
    """None, or the (world, inputs) where sayings are true before a run of a script and another one false behind it."""
    if not script.scene == saying.scene:
        raise OtherScene()
    stand = first_breach(script, before, [saying])
    if stand is None:
        return None
    return told(script.scene, stand)
