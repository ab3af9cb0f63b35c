"""Scripts: reading them, running them in worlds, and doing one behind another."""

from seatedtwice.errors import BadInputs, BadScript, OtherScene, Unlike
from seatedtwice.names import lines_of
from seatedtwice.parts import parts_of, world_from
from seatedtwice.programs import do_line, finish, joined, outputs_of
from seatedtwice.scripttexts import read_program
from seatedtwice.states import State, first_comings

MOST_LINES = 60


class Script:
    """A script over a scene. It never changes."""

    def __init__(self, scene, text):
        lines = lines_of(text)
        program = read_program(scene, lines[:MOST_LINES])
        if len(lines) > MOST_LINES:
            raise BadScript(MOST_LINES + 1)
        self._keep(scene, text, program)

    def _keep(self, scene, text, program):
        self.scene = scene
        self.text = text
        self.takes = program.takes
        self.gives = program.gives
        self.walks = program.walks
        self.program = program

    def run(self, world, inputs):
        """(outputs, world): what the registers of `gives` hold behind a run, and the world behind it."""
        state = self.begun(world, inputs)
        finish(self.program, state)
        return outputs_of(self.program, state), world_behind(world, state)

    def steps(self, world, inputs):
        """Yields (line, registers, world) at the beginning of a run, and behind each line that is told."""
        state = self.begun(world, inputs)
        yield 1, state.holding(), world
        changes = 0
        lines = self.program.lines
        while state.line < len(lines) - 1:
            at = state.line
            line = lines[at]
            do_line(line, state)
            if state.changes > changes:
                changes = state.changes
                world = world_behind(world, state)
            if line.is_told():
                yield at + 1, state.holding(), world

    def visited(self, world, inputs):
        """A list of the things that a run visits, in the order in which it comes to them first."""
        state = self.begun(world, inputs)
        finish(self.program, state)
        return first_comings([*inputs, *state.walked])

    def after(self, other):
        """The script that does the other one first, and then this one with the outputs of the other one."""
        if len(other.gives) != len(self.takes):
            raise Unlike()
        if not self.scene == other.scene:
            raise OtherScene()
        return JoinedScript(self.scene, joined(other.program, self.program))

    def begun(self, world, inputs):
        """The state at the beginning of a run; the errors of a run are raised here."""
        check_inputs(world, inputs, len(self.takes))
        if not self.scene == world.scene:
            raise OtherScene()
        parts = parts_of(world)
        return State(parts, dict(zip(self.takes, inputs)), parts[self.scene.rows[0]])


class JoinedScript(Script):
    """A script that is made of two others. It may have more lines than the text of a script."""

    def __init__(self, scene, program):
        self._keep(scene, program.written(), program)


def check_inputs(world, inputs, many):
    """The inputs must be so many, each of them None or a thing of the world."""
    for index, thing in enumerate(inputs):
        if index >= many or (thing is not None and thing not in world):
            raise BadInputs(index)
    if len(inputs) < many:
        raise BadInputs(len(inputs))


def world_behind(world, state):
    """The world behind a run, or behind a line of it, that began in a world."""
    if state.changes == 0:
        return world
    names = {thing: thing for thing in world[world.scene.rows[0]]}
    return world_from(world.scene, state.parts, names)
