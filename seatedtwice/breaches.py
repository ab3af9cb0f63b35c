"""Breaches: finding worlds where sayings are true before a run of a script, and not all of some are true behind it."""

from seatedtwice.growing import Stand, growing
from seatedtwice.parts import kinds_within
from seatedtwice.programs import finish, reached, within
from seatedtwice.states import FOR_FALSE, FOR_TRUE, PLAINLY, State


def first_breach(script, before, behind):
    """The stand with the fewest things where this is so for two lists of sayings, or None."""
    searches = [Breach(script, before, behind)]
    for stand in growing(searches):
        state = stand.states[0]
        if state.begins_right and not all_true(behind, state):
            return stand
    return None


class Breach:
    """A search for worlds where this can be so."""

    def __init__(self, script, before, behind):
        asked = reached([script.program], [name for saying in behind for name in saying.asked])
        first = {name: True for saying in before for name in saying.asked}
        self.kinds = kinds_within(script.scene, {**asked, **first})
        self.many = len(script.takes)
        # A world can be cut to what the run visits and to things that make blocks so that the sayings are as they were.
        self.spare = sum([saying.needed[FOR_TRUE] for saying in before])
        self.spare += max([int(saying.needed[FOR_FALSE]) for saying in behind], default=0)
        self._program = within(script.program, asked)
        self._before = before
        self._behind = behind

    def begun(self, things, parts, inputs):
        state = State(parts, dict(zip(self._program.takes, inputs)), things)
        state.begins_right = all_true(self._before, state)
        if not state.begins_right and not can_be_true(self._before, state):
            return None
        finish(self._program, state)
        return Stand(things, parts, inputs, [state])

    def hopes(self, stand):
        return can_be_false(self._behind, stand.states[0])


def all_true(sayings, state):
    """Whether all sayings are true."""
    for saying in sayings:
        if not saying.is_true(state):
            return False
    return True


def can_be_true(sayings, state):
    """False if one of the sayings is false, however many things are added."""
    state.hope = FOR_TRUE
    told = all_true(sayings, state)
    state.hope = PLAINLY
    return told


def can_be_false(sayings, state):
    """False if all sayings are true, however many things are added that no run visits."""
    state.hope = FOR_FALSE
    told = not all_true(sayings, state)
    state.hope = PLAINLY
    return told
