"""Growing: finding all ways in which few things can stand where runs visit them.

A run goes on in the same way if things that it does not visit are taken away. So all ways in which things that are all
visited can stand come from fewer things: the thing that comes last in the order of first coming is put in everywhere.
"""

from seatedtwice.names import form_names
from seatedtwice.parts import MARK, ROW
from seatedtwice.states import first_comings


class Stand:
    """Parts with inputs, and the states behind the runs that were done there, one behind another.

    The things have the names of a form in the order of their first coming; those that no run visits come last.
    """

    def __init__(self, things, parts, inputs, states):
        self.things = things
        self.parts = parts
        self.inputs = inputs
        self.states = states
        self._walked = [thing for state in states for thing in state.walked]
        self._visited = first_comings([*inputs, *self._walked])

    def is_right(self, spare):
        """Whether things are named as they should be, and the runs do not visit at most so many of them."""
        many = len(self._visited)
        return self._visited == self.things[:many] and len(self.things) - many <= spare

    def may_grow(self, spare):
        """Whether one more thing can be right: one that no run visits, or one that is visited behind all others."""
        many_spare = len(self.things) - len(self._visited)
        if many_spare > 0 or not self._goes_on():
            return many_spare < spare
        return True

    def _goes_on(self):
        """Whether a walk follows behind the first coming to the last thing."""
        if not self.things or self.things[-1] in self.inputs:
            return len(self._walked) > 0
        return self._walked.index(self.things[-1]) < len(self._walked) - 1


def growing(kinds, many, play, spare):
    """Yields all stands, those of fewer things first, for a number of inputs.

    The parts are those that `kinds` names, with the kind of each; `play` takes parts and inputs and returns a list of
    the states behind the runs; so many things as `spare` tells may be there that no run visits.
    """
    level = []
    size = 0
    while level or size <= many:
        things = form_names(size)
        found = []
        for parts, inputs in candidates(kinds, many, things, level):
            stand = Stand(things, parts, inputs, play(parts, inputs))
            if stand.is_right(spare):
                found.append(stand)
                yield stand
        level = [stand for stand in found if stand.may_grow(spare)]
        size += 1


def candidates(kinds, many, things, smaller):
    """Yields (parts, inputs) for what may be a stand: all things are inputs, or one is added to a smaller stand."""
    for inputs in input_patterns(many):
        if len(first_comings(inputs)) == len(things):
            for parts in all_parts(kinds, things):
                yield parts, inputs
    for stand in smaller:
        for parts in parts_with(kinds, stand.parts, things[-1]):
            yield parts, stand.inputs


def input_patterns(many):
    """All tuples of so many inputs, None or things that are named in the order of their first coming."""
    names = form_names(many)
    patterns = [()]
    for _ in range(many):
        patterns = [(*inputs, thing) for inputs in patterns
                    for thing in [None, *names[:len(first_comings(inputs)) + 1]]]
    return patterns


def all_parts(kinds, things):
    """All parts in which exactly these things stand."""
    told = [{name: [] if kind == ROW else {} for name, kind in kinds.items()}]
    for thing in things:
        told = [larger for parts in told for larger in parts_with(kinds, parts, thing)]
    return told


def parts_with(kinds, parts, thing):
    """All parts that become these if a thing is taken away."""
    told = [{}]
    for name, kind in kinds.items():
        values = values_with(kind, parts[name], thing)
        told = [{**larger, name: value} for larger in told for value in values]
    return told


def values_with(kind, value, thing):
    """All that a row, a mark or the lots can be if a thing is added."""
    if kind == ROW:
        return [value[:at] + [thing] + value[at:] for at in range(len(value) + 1)]
    if kind == MARK:
        return [value, {**value, thing: True}]
    lots = len(set(list(value.values())))
    return [{**value, thing: lot} for lot in range(lots + 1)]
