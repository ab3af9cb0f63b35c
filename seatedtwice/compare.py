"""Comparing scripts: whether two tell the same or leave the same, and on what one hangs."""

from seatedtwice.errors import NoRow, OtherScene, Unlike
from seatedtwice.growing import Stand, growing
from seatedtwice.parts import ROW, kinds_of, kinds_within
from seatedtwice.programs import finished, outputs_of, reached, within
from seatedtwice.shown import told, told_pair

# What two scripts leave may differ in the order of two things that no run visits.
SPARE = 2
# Under this key stands the other order of a row (the other bearers of a mark, the other lots): it is no name.
OTHER = ""


def parting(one, two):
    """None, or a tuple (world, inputs) for which the outputs of two scripts are not the same."""
    check_takes_and_gives(one, two)
    check_scenes(one, two)
    searches = [TwoRuns(one, two, [])]
    for stand in growing(searches):
        state, other = stand.states
        if outputs_of(one.program, state) != outputs_of(two.program, other):
            return told(one.scene, stand)
    return None


def alike(one, two):
    """Whether two scripts tell the same."""
    return parting(one, two) is None


def beyond(one, two):
    """None, or a tuple (world, inputs) for which the first script gives things alone, and the second not the same."""
    check_takes_and_gives(one, two)
    check_scenes(one, two)
    searches = [TwoRuns(one, two, [])]
    for stand in growing(searches):
        state, other = stand.states
        outputs = outputs_of(one.program, state)
        if None not in outputs and outputs != outputs_of(two.program, other):
            return told(one.scene, stand)
    return None


def is_within(one, two):
    """Whether the first script is within the second one."""
    return beyond(one, two) is None


def leaving(one, two):
    """None, or a tuple (world, inputs) for which the worlds behind two scripts differ."""
    check_takes(one, two)
    check_scenes(one, two)
    searches = [TwoRuns(one, two, names) for names in changed_together(one, two)]
    if not searches:
        return None
    for stand in growing(searches):
        state, other = stand.states
        if state.parts != other.parts:
            return told(one.scene, stand)
    return None


def leave_alike(one, two):
    """Whether two scripts leave the same."""
    return leaving(one, two) is None


def hanging(script, name):
    """None, or a tuple (world, other, inputs) that shows that the script hangs on a row, a mark or lots."""
    if name not in kinds_of(script.scene):
        raise NoRow(name)
    if name not in reached([script.program], []):
        return None
    searches = [OtherPart(script, name)]
    for stand in growing(searches):
        state, other = stand.states
        if outputs_of(script.program, state) != outputs_of(script.program, other):
            return told_pair(script.scene, stand, name, stand.parts[OTHER])
    return None


def check_takes(one, two):
    """Two scripts must have as many inputs."""
    if len(one.takes) != len(two.takes):
        raise Unlike()


def check_takes_and_gives(one, two):
    """Two scripts must have as many inputs and as many outputs."""
    check_takes(one, two)
    if len(one.gives) != len(two.gives):
        raise Unlike()


def check_scenes(one, two):
    """Two scripts must be over one scene."""
    if not one.scene == two.scene:
        raise OtherScene()


def changed_together(one, two):
    """Lists of the rows and marks that the scripts change: in one list those that hang on what the others hang on."""
    programs = [one.program, two.program]
    names = [name for name in kinds_of(one.scene) if name in one.program.links() or name in two.program.links()]
    fields = [reached(programs, [name]) for name in names]
    kept = []
    for at, field in enumerate(fields):
        others = fields[at + 1:] + kept
        if not any([is_part(field, other) for other in others]):
            kept.append(field)
    return [[name for name in names if name in field] for field in kept]


def is_part(names, others):
    """Whether all names are among the others."""
    return all([name in others for name in names])


class TwoRuns:
    """A search for worlds where the runs of two scripts do not do the same to the registers or to some parts."""

    def __init__(self, one, two, names):
        programs = [one.program, two.program]
        asked = reached(programs, names)
        self.kinds = kinds_within(one.scene, asked)
        self.many = len(one.takes)
        self.spare = 0
        if ROW in [self.kinds[name] for name in names]:
            self.spare = SPARE
        self._programs = [within(program, asked) for program in programs]

    def begun(self, things, parts, inputs):
        return Stand(things, parts, inputs, [finished(program, things, parts, inputs) for program in self._programs])

    def hopes(self, stand):
        return stand.spare < self.spare


class OtherPart:
    """A search for worlds where a script tells something else if a row, a mark or the lots are other ones."""

    def __init__(self, script, name):
        asked = reached([script.program], [])
        self.kinds = kinds_within(script.scene, asked)
        self.kinds[OTHER] = self.kinds[name]
        self.many = len(script.takes)
        self.spare = 0
        self._name = name
        self._program = within(script.program, asked)

    def begun(self, things, parts, inputs):
        changed = {**parts, self._name: parts[OTHER]}
        return Stand(things, parts, inputs, [finished(self._program, things, parts, inputs),
                                             finished(self._program, things, changed, inputs)])

    def hopes(self, stand):
        return stand.spare < self.spare
