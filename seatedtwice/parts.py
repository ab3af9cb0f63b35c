"""Parts: how the things of a world stand, as a dict of plain lists and dicts.

Parts have under the name of each row its things in order, under the name of each mark a dict of True for the things
that bear it, and under `lots` a dict from each thing to the number of its lot. The lists and dicts in parts are never
modified, only replaced by others, so that many parts can share them.
"""

from seatedtwice.names import form_names
from seatedtwice.worlds import World
from seatedtwice.worldtexts import lots_in_order, with_names, write_world

ROW = "row"
MARK = "mark"
# No name of a row or a mark is this word.
LOTS = "lots"


def kinds_of(scene):
    """A dict from the names of all parts of a world over the scene to their kinds: ROW, MARK or LOTS."""
    kinds = {row: ROW for row in scene.rows}
    for mark in scene.marks:
        kinds[mark] = MARK
    if scene.has_lots:
        kinds[LOTS] = LOTS
    return kinds


def kinds_within(scene, names):
    """The kinds of those parts of a world over the scene that have one of these names."""
    return {name: kind for name, kind in kinds_of(scene).items() if name in names}


def parts_of(world):
    """The parts of a world."""
    scene = world.scene
    parts = {row: world[row] for row in scene.rows}
    for mark in scene.marks:
        parts[mark] = {thing: True for thing in world.marked(mark)}
    if scene.has_lots:
        parts[LOTS] = {thing: lot for lot, things in enumerate(world.lots()) for thing in things}
    return parts


def world_from(scene, parts, names):
    """The world of these parts with new names for its things; things that have none are left out."""
    things = parts[scene.rows[0]]
    rows = with_names([parts[row] for row in scene.rows], names)
    marks = with_names([list(parts[mark]) for mark in scene.marks], names)
    lots = []
    if scene.has_lots:
        lots = with_names(lots_in_order(parts[LOTS], things), names)
    return World(scene, write_world(scene, rows, marks, [lot for lot in lots if lot]))


def letters_for(things):
    """A dict from things, in the order of the first row, to the names that a form gives them."""
    return dict(zip(things, form_names(len(things))))


def with_letters(things, names):
    """A tuple of the new names of things; None stays None."""
    return tuple([names.get(thing) for thing in things])
