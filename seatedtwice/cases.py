"""Cases: the finitely many ways in which a run of a script can go."""

from seatedtwice.growing import Stand, growing
from seatedtwice.parts import kinds_of, letters_for, parts_of, with_letters, world_from
from seatedtwice.programs import finish, finished, outputs_of
from seatedtwice.states import first_comings


class OneRun:
    """A search for all worlds whose things are all visited by the run of a script."""

    def __init__(self, script):
        self.kinds = kinds_of(script.scene)
        self.many = len(script.takes)
        self.spare = 0
        self._program = script.program

    def begun(self, things, parts, inputs):
        return Stand(things, parts, inputs, [finished(self._program, things, parts, inputs)])

    def hopes(self, stand):
        return stand.spare < self.spare


def cases(script):
    """A list of all cases of a script, as tuples (world, inputs, outputs)."""
    searches = [OneRun(script)]
    found = {}
    for stand in growing(searches):
        case = case_behind(script, stand.parts, stand.inputs, stand.states[0])
        found[place_of(case)] = case
    return [found[place] for place in sorted([str(place) for place in found])]


def case_of(script, world, inputs):
    """The case for a world and inputs."""
    state = script.begun(world, inputs)
    finish(script.program, state)
    return case_behind(script, parts_of(world), inputs, state)


def case_behind(script, parts, inputs, state):
    """The case for parts and inputs, by the state behind the run."""
    scene = script.scene
    visited = {thing: True for thing in first_comings([*inputs, *state.walked])}
    names = letters_for([thing for thing in parts[scene.rows[0]] if thing in visited])
    outputs = outputs_of(script.program, state)
    return world_from(scene, parts, names), with_letters(inputs, names), with_letters(outputs, names)


def place_of(case):
    """A text by whose order the cases are told."""
    world, inputs, _ = case
    # A tab stands before all characters of the texts, so that a text stands before all that it begins.
    return "\t".join([f"{len(world):09d}", world.text, *[name or "" for name in inputs]])
