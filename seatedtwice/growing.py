"""Growing: finding all ways in which few things can stand where runs visit them.

A run goes on in the same way if things that it does not visit are taken away. So all ways in which things that are all
visited can stand come from fewer things: the thing that comes last in the order of first coming is put in everywhere.
Things that no run visits are put in behind all others.

A search says what is looked for. It has the attributes `kinds`: the names of the parts in which things stand, with
their kinds; `many`: the number of inputs; `spare`: how many things may be there that no run visits; and the methods
`begun(things, parts, inputs)`, which does the runs and returns a Stand, or None if nothing that grows from there can be
what is looked for; `hopes(stand)`, whether that can grow from a stand by things that no run visits.
"""

from seatedtwice.names import form_names
from seatedtwice.parts import MARK, ROW
from seatedtwice.states import first_comings


class Stand:
    """Parts with inputs, and the states behind the runs that were done there, one behind another.

    The things have the names of a form in the order of their first coming; those that no run visits come last.
    """

    def __init__(self, things, parts, inputs, states):
        self.things = things
        self.parts = parts
        self.inputs = inputs
        self.states = states
        self._walked = [thing for state in states for thing in state.walked]
        self._visited = first_comings([*inputs, *self._walked])
        self.spare = len(things) - len(self._visited)

    def is_right(self, spare):
        """Whether things are named as they should be, and the runs do not visit at most so many of them."""
        return self.spare <= spare and self._visited == self.things[:len(self._visited)]

    def goes_on(self):
        """Whether one more thing can be visited, behind all others: a walk follows the first coming to the last one."""
        if self.spare > 0 or not self._walked:
            return False
        if not self.things or self.things[-1] in self.inputs:
            return True
        return self._walked.index(self.things[-1]) < len(self._walked) - 1


def growing(searches):
    """Yields all stands of one or more searches with the same number of inputs, those of fewer things first."""
    levels = [[] for _ in searches]
    size = 0
    while size <= searches[0].many or any(levels):
        things = form_names(size)
        grown = []
        for search, level in zip(searches, levels):
            found = []
            for parts, inputs in candidates(search, things, level):
                stand = search.begun(things, parts, inputs)
                if stand is not None and stand.is_right(search.spare):
                    yield stand
                    if stand.goes_on() or (stand.spare < search.spare and search.hopes(stand)):
                        found.append(stand)
            grown.append(found)
        levels = grown
        size += 1


def candidates(search, things, smaller):
    """Yields (parts, inputs) for what may be a stand: all things are inputs, or one is added to a smaller stand."""
    kinds = search.kinds
    for inputs in input_patterns(search.many):
        if len(first_comings(inputs)) == len(things):
            for parts in all_parts(kinds, things):
                yield parts, inputs
    for stand in smaller:
        behind = None
        if stand.spare > 0:
            # Things that no run visits differ in nothing but their names: they have these in the order of a row.
            behind = stand.things[-1]
        for parts in parts_with(kinds, stand.parts, things[-1], behind):
            yield parts, stand.inputs


def input_patterns(many):
    """All tuples of so many inputs, None or things that are named in the order of their first coming."""
    names = form_names(many)
    patterns = [()]
    for _ in range(many):
        patterns = [(*inputs, thing) for inputs in patterns
                    for thing in [None, *names[:len(first_comings(inputs)) + 1]]]
    return patterns


def all_parts(kinds, things):
    """All parts in which exactly these things stand."""
    told = [{name: [] if kind == ROW else {} for name, kind in kinds.items()}]
    for thing in things:
        told = [larger for parts in told for larger in parts_with(kinds, parts, thing, None)]
    return told


def parts_with(kinds, parts, thing, behind):
    """All parts that become these if a thing is taken away, in the first row only those where it is behind another."""
    told = [{}]
    for name, kind in kinds.items():
        if kind == ROW:
            values = orders_with(parts[name], thing, behind)
            behind = None
        elif kind == MARK:
            values = [parts[name], {**parts[name], thing: True}]
        else:
            values = lots_with(parts[name], thing)
        told = [{**larger, name: value} for larger in told for value in values]
    return told


def orders_with(order, thing, behind):
    """All orders of a row that become this one if a thing is taken away; it is behind another thing if that is told."""
    first = 0
    if behind is not None:
        first = order.index(behind) + 1
    return [order[:at] + [thing] + order[at:] for at in range(first, len(order) + 1)]


def lots_with(lot_of, thing):
    """All ways to lay a thing into one of the lots, or into a new one."""
    many = len(set(list(lot_of.values())))
    return [{**lot_of, thing: lot} for lot in range(many + 1)]
