"""The texts of worlds: reading and writing their rows, marks and lots as lists of lists of names."""

from seatedtwice.errors import BadWorld
from seatedtwice.names import is_name, lines_of


def read_world(scene, text):
    """(rows, marks, lots) of a text, with the names of marks and lots, and the lots, in the order of the first row."""
    lines = lines_of(text)
    things = read_things(scene, lines)
    rows = [list(things)]
    for at in range(1, len(scene.rows)):
        rows.append(read_row(lines, at, scene.rows[at], things))
    marks = []
    for at, mark in enumerate(scene.marks):
        names = read_line(lines, len(rows) + at, ["mark", mark], things)
        marks.append(in_order(names, things))
    lots = read_lots(scene, lines, things)
    return rows, marks, lots


def words_behind(lines, at, head):
    """The words of a line behind its head, with which the line must begin."""
    if at >= len(lines):
        raise BadWorld(len(lines) + 1)
    words = lines[at].split(" ")
    if words[:len(head)] != head:
        raise BadWorld(at + 1)
    return words[len(head):]


def read_things(scene, lines):
    """A dict of True for the names of the first row line, in their order."""
    things = {}
    for name in words_behind(lines, 0, ["row", scene.rows[0]]):
        if name in things or not is_name(name):
            raise BadWorld(1)
        things[name] = True
    return things


def read_line(lines, at, head, things):
    """The names behind the head of a line, each of them a thing, none of them doubled."""
    names = words_behind(lines, at, head)
    if len(set(names)) < len(names) or not all([name in things for name in names]):
        raise BadWorld(at + 1)
    return names


def read_row(lines, at, row, things):
    """The names of a row line behind the first one, in which no thing may lack."""
    names = read_line(lines, at, ["row", row], things)
    if len(names) < len(things):
        raise BadWorld(at + 1)
    return names


def read_lots(scene, lines, things):
    """The lots behind the lines of rows and marks; every line that is left must be one, and no thing may lack."""
    start = len(scene.rows) + len(scene.marks)
    if not scene.has_lots:
        if len(lines) > start:
            raise BadWorld(start + 1)
        return []
    lot_of = {}
    for at in range(start, len(lines)):
        names = read_line(lines, at, ["lot"], things)
        if not names or any([name in lot_of for name in names]):
            raise BadWorld(at + 1)
        for name in names:
            lot_of[name] = at
    if len(lot_of) < len(things):
        raise BadWorld(len(lines) + 1)
    return lots_in_order(lot_of, things)


def in_order(names, things):
    """The names in the order of the things."""
    told = {name: True for name in names}
    return [name for name in things if name in told]


def lots_in_order(lot_of, things):
    """The lots in the order of their first things, by a dict from each thing to what tells its lot."""
    lots = {}
    for name in things:
        lots.setdefault(lot_of[name], []).append(name)
    return list(lots.values())


def write_world(scene, rows, marks, lots):
    """The text of a world, with all names in the order in which they are given."""
    lines = [["row", row, *names] for row, names in zip(scene.rows, rows)]
    lines.extend([["mark", mark, *names] for mark, names in zip(scene.marks, marks)])
    lines.extend([["lot", *names] for names in lots])
    return "\n".join([" ".join(words) for words in lines])


def with_names(groups, new_names):
    """The lists of names with each name changed to its new one; names that have none are left out."""
    return [[new_names[name] for name in names if name in new_names] for names in groups]
