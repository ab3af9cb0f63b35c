"""Scenes: how things can stand."""

from seatedtwice.errors import BadScene
from seatedtwice.names import is_name, lines_of

MOST_ROWS = 3
MOST_MARKS = 2


class Scene:
    """A scene: its rows, its marks, and whether it has lots. It never changes."""

    def __init__(self, text):
        lines = lines_of(text)
        rows = read_names(lines, "row", MOST_ROWS, [])
        if not rows:
            raise BadScene(1)
        marks = read_names(lines[len(rows):], "mark", MOST_MARKS, rows)
        right = len(rows) + len(marks)
        has_lots = lines[right:right + 1] == ["lots"]
        if has_lots:
            right += 1
        if right < len(lines):
            raise BadScene(right + 1)
        self.text = text
        self.rows = tuple(rows)
        self.marks = tuple(marks)
        self.has_lots = has_lots

    def __eq__(self, other):
        return isinstance(other, Scene) and self.text == other.text


def read_names(lines, word, most, taken):
    """The names of the lines `word NAME` at the beginning, up to the first line that is wrong as such."""
    names = []
    for line in lines:
        words = line.split(" ")
        if len(names) == most or len(words) != 2 or words[0] != word:
            break
        name = words[1]
        if not is_name(name) or name in taken or name in names:
            break
        names.append(name)
    return names
