"""What searches show: worlds in their form, made from the parts that played a part."""

from seatedtwice.parts import MARK, ROW, kinds_of, letters_for, with_letters, world_from


def filled(scene, parts, things):
    """The parts, and for those of the scene that lack any in which the things can stand."""
    whole = {}
    for name, kind in kinds_of(scene).items():
        if name in parts:
            whole[name] = parts[name]
        elif kind == ROW:
            whole[name] = things
        elif kind == MARK:
            whole[name] = {}
        else:
            whole[name] = {thing: True for thing in things}
    return whole


def told(scene, stand):
    """The tuple (world, inputs) of a stand, the world in its form."""
    parts = filled(scene, stand.parts, stand.things)
    names = letters_for(parts[scene.rows[0]])
    return world_from(scene, parts, names), with_letters(stand.inputs, names)


def told_pair(scene, stand, name, part):
    """The tuple (world, other, inputs) of a stand, where the part of this name is another one in the other world."""
    parts = filled(scene, stand.parts, stand.things)
    names = letters_for(parts[scene.rows[0]])
    other = {**parts, name: part}
    return world_from(scene, parts, names), world_from(scene, other, names), with_letters(stand.inputs, names)
