"""Comparing scripts: whether two tell the same or leave the same, and on what one hangs."""

from seatedtwice.errors import NoRow, OtherScene, Unlike
from seatedtwice.growing import growing
from seatedtwice.names import lines_of
from seatedtwice.parts import LOTS, MARK, ROW, kinds_of, letters_for, with_letters, world_from
from seatedtwice.programs import finished, outputs_of

# What two scripts leave may differ in two things that no run visits.
SPARE = 2
# Under this key stands the other order of a row (the other bearers of a mark, the other lots): it is no name.
OTHER = ""


def parting(one, two):
    """None, or a tuple (world, inputs) for which the outputs of two scripts are not the same."""
    check_takes_and_gives(one, two)
    return shown(one, two, 0, lambda state, other: outputs_of(one.program, state) != outputs_of(two.program, other))


def alike(one, two):
    """Whether two scripts tell the same."""
    return parting(one, two) is None


def beyond(one, two):
    """None, or a tuple (world, inputs) for which the first script gives things alone, and the second not the same."""
    check_takes_and_gives(one, two)

    def is_beyond(state, other):
        outputs = outputs_of(one.program, state)
        return None not in outputs and outputs != outputs_of(two.program, other)

    return shown(one, two, 0, is_beyond)


def is_within(one, two):
    """Whether the first script is within the second one."""
    return beyond(one, two) is None


def leaving(one, two):
    """None, or a tuple (world, inputs) for which the worlds behind two scripts differ."""
    check_takes(one, two)
    return shown(one, two, SPARE, lambda state, other: state.parts != other.parts)


def leave_alike(one, two):
    """Whether two scripts leave the same."""
    return leaving(one, two) is None


def hanging(script, name):
    """None, or a tuple (world, other, inputs) that shows that the script hangs on a row, a mark or lots."""
    if name not in kinds_of(script.scene):
        raise NoRow(name)
    kinds = asked_kinds([script])
    if name not in kinds:
        return None
    kinds[OTHER] = kinds[name]
    many = len(script.takes)
    program = script.program

    def play(parts, inputs):
        return [finished(program, parts, inputs), finished(program, {**parts, name: parts[OTHER]}, inputs)]

    for stand in growing(kinds, many, play, 0):
        state, other = stand.states
        if outputs_of(program, state) != outputs_of(program, other):
            return told_pair(script.scene, stand, name)
    return None


def check_takes(one, two):
    """Two scripts must have as many inputs."""
    if len(one.takes) != len(two.takes):
        raise Unlike()


def check_takes_and_gives(one, two):
    """Two scripts must have as many inputs and as many outputs."""
    check_takes(one, two)
    if len(one.gives) != len(two.gives):
        raise Unlike()


def shown(one, two, spare, shows):
    """The (world, inputs) with the fewest things where `shows` is true of the states behind the two runs, or None."""
    if not one.scene == two.scene:
        raise OtherScene()
    kinds = asked_kinds([one, two])
    many = len(one.takes)

    def play(parts, inputs):
        return [finished(one.program, parts, inputs), finished(two.program, parts, inputs)]

    for stand in growing(kinds, many, play, spare):
        state, other = stand.states
        if shows(state, other):
            return told(one.scene, stand)
    return None


def asked_kinds(scripts):
    """The kinds of the parts that lines of the scripts can name: how things stand in the others plays no part."""
    words = {word: True for script in scripts for line in lines_of(script.text) for word in line.split(" ")}
    kinds = kinds_of(scripts[0].scene)
    return {name: kind for name, kind in kinds.items() if name in words or (name == LOTS and "with" in words)}


def filled(scene, parts, things):
    """The parts, and for those of the scene that lack any in which the things can stand."""
    whole = {}
    for name, kind in kinds_of(scene).items():
        if name in parts:
            whole[name] = parts[name]
        elif kind == ROW:
            whole[name] = things
        elif kind == MARK:
            whole[name] = {}
        else:
            whole[name] = {thing: True for thing in things}
    return whole


def told(scene, stand):
    """The tuple (world, inputs) of a stand, the world in its form."""
    parts = filled(scene, stand.parts, stand.things)
    names = letters_for(parts[scene.rows[0]])
    return world_from(scene, parts, names), with_letters(stand.inputs, names)


def told_pair(scene, stand, name):
    """The tuple (world, other, inputs) of a stand with two orders of a row (or of what else has this name)."""
    parts = filled(scene, stand.parts, stand.things)
    names = letters_for(parts[scene.rows[0]])
    other = {**parts, name: stand.parts[OTHER]}
    return world_from(scene, parts, names), world_from(scene, other, names), with_letters(stand.inputs, names)
