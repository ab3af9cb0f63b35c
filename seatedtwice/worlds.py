"""Worlds: finitely many things that stand in every row of a scene at once."""

from seatedtwice.errors import NoLots, NoMark, NoRow, NoThing
from seatedtwice.names import form_names
from seatedtwice.worldtexts import read_world, with_names, write_world


class World:
    """A world over a scene. It never changes."""

    def __init__(self, scene, text):
        rows, marks, lots = read_world(scene, text)
        self.scene = scene
        self.text = write_world(scene, rows, marks, lots)
        self._rows = dict(zip(scene.rows, rows))
        self._marks = dict(zip(scene.marks, marks))
        self._lots = lots
        self._things = {name: True for name in rows[0]}

    def __eq__(self, other):
        return isinstance(other, World) and self.scene == other.scene and self.text == other.text

    def __len__(self):
        return len(self._things)

    def __contains__(self, x):
        return x in self._things

    def __getitem__(self, at):
        """The names of the things in the order of a row."""
        if at not in self._rows:
            raise NoRow(at)
        return list(self._rows[at])

    def __iter__(self):
        raise TypeError("a world is not iterated over: its rows are")

    def marked(self, mark):
        """The names of the things that bear a mark, in the order of the first row."""
        if mark not in self._marks:
            raise NoMark(mark)
        return list(self._marks[mark])

    def lots(self):
        """The lots, each a list of names in the order of the first row, in the order of their first things."""
        if not self.scene.has_lots:
            raise NoLots()
        return [list(lot) for lot in self._lots]

    def cut(self, names):
        """The world in which only the things of these names are left."""
        kept = {}
        for name in names:
            if name not in self._things:
                raise NoThing(name)
            kept[name] = name
        return World(self.scene, self._text_with(kept))

    def form(self):
        """The written form of the world with its things renamed as a, b, c and so on."""
        return self._text_with(dict(zip(self._things, form_names(len(self._things)))))

    def renamed(self):
        """The world with its things renamed as in its form."""
        return World(self.scene, self.form())

    def _text_with(self, new_names):
        """A text of the world with new names for its things; things that have none are left out."""
        rows = with_names(list(self._rows.values()), new_names)
        marks = with_names(list(self._marks.values()), new_names)
        lots = with_names(self._lots, new_names)
        return write_world(self.scene, rows, marks, [lot for lot in lots if lot])
