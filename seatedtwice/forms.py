"""Forms: the forms that the lines of a script can have, and what a line of each form does to the state of a run."""

from seatedtwice.conditions import ConditionReader
from seatedtwice.errors import BadSaying
from seatedtwice.names import is_name

BLOCK_WORDS = ("if", "else", "times", "end")
NUMBERS = ("1", "2", "3", "4", "5")
# The words of forms that stand for registers, and for rows and marks.
REGISTERS = ("A", "B")
PARTS = ("ROW", "OTHER", "MARK")


def take_next(state, name, start, row, condition=None):
    state.walk(name, state.behind(start, row), condition)


def take_prev(state, name, start, row, condition=None):
    state.walk(name, state.ahead_of(start, row), condition)


def take_first(state, name, row, condition=None):
    state.walk(name, state.parts[row], condition)


def take_last(state, name, row, condition=None):
    state.walk(name, state.parts[row][::-1], condition)


def take_held(state, name, other):
    state.held[name] = state.held.get(other)


def take_nothing(state, name):
    state.held[name] = None


def put_behind(state, name, other, row):
    put(state, name, other, row, 1)


def put_ahead(state, name, other, row):
    put(state, name, other, row, 0)


def put(state, name, other, row, shift):
    """Take a thing out of a row and put it in again, at the place of the other one or behind it."""
    if state.has_two(name, other):
        thing = state.held[name]
        order = [one for one in state.parts[row] if one != thing]
        order.insert(order.index(state.held[other]) + shift, thing)
        state.change(row, order)


def swap(state, name, other, row):
    if state.has_two(name, other):
        thing, beside = state.held[name], state.held[other]
        exchanged = {thing: beside, beside: thing}
        state.change(row, [exchanged.get(one, one) for one in state.parts[row]])


def turn(state, row):
    state.change(row, state.parts[row][::-1])


def sort_by(state, row, other):
    state.change(row, state.parts[other])


def gather(state, row, condition):
    # All is asked before the row changes: the condition is about the world before this line.
    wanted = state.wanted(state.parts[row], condition)
    taken = {thing: True for thing in wanted}
    state.change(row, wanted + [thing for thing in state.parts[row] if thing not in taken])


def set_mark(state, name, mark):
    thing = state.held.get(name)
    if thing is not None:
        state.change(mark, {**state.parts[mark], thing: True})


def unset_mark(state, name, mark):
    thing = state.held.get(name)
    if thing is not None:
        state.change(mark, {one: True for one in state.parts[mark] if one != thing})


def skip_unless(state, condition, many):
    """Skip so many lines if the condition is false."""
    if not condition(state):
        state.line += many


def skip(state, many):
    """Skip so many lines."""
    state.line += many


def begin_times(state, many):
    state.left.append(int(many))


def end_block(state, many=None):
    """Go so many lines back in a `times` block, as often as is left; nothing is to be done for other blocks."""
    if many is None:
        return
    state.left[-1] -= 1
    if state.left[-1] > 0:
        state.line -= many
    else:
        state.left.pop()


def stay(state):
    """Nothing happens."""


WALKS = ("next", "prev", "first", "last")
DEEDS = ("put", "swap", "turn", "sort", "gather", "mark", "unmark")
# The forms of lines under the word that tells them apart: the first one, or the one behind `=`, or `=` if that is a
# register. Words in capital letters stand for what a line may have at their place.
FORMS = {
    "next": (("A = next B ROW", take_next), ("A = next B ROW where COND", take_next)),
    "prev": (("A = prev B ROW", take_prev), ("A = prev B ROW where COND", take_prev)),
    "first": (("A = first ROW", take_first), ("A = first ROW where COND", take_first)),
    "last": (("A = last ROW", take_last), ("A = last ROW where COND", take_last)),
    "=": (("A = B", take_held),),
    "nothing": (("A = nothing", take_nothing),),
    "if": (("if COND", skip_unless),),
    "else": (("else", skip),),
    "times": (("times K", begin_times),),
    "end": (("end", end_block),),
    "put": (("put A behind B ROW", put_behind), ("put A ahead B ROW", put_ahead)),
    "swap": (("swap A B ROW", swap),),
    "turn": (("turn ROW", turn),),
    "sort": (("sort ROW by OTHER", sort_by),),
    "gather": (("gather ROW where COND", gather),),
    "mark": (("mark A MARK", set_mark),),
    "unmark": (("unmark A MARK", unset_mark),),
}


class Line:
    """A line of a script: its text, its words and its form, what it does and to what, and who read its condition."""

    def __init__(self, text, words, slots, action, given, reader):
        self.text = text
        self.words = words
        self.action = action
        self.given = given
        self._slots = slots
        self._reader = reader

    def lead_on(self, many):
        """The line can go on so many lines away from the one behind it."""
        self.given = [*self.given, many]

    def is_walk(self):
        return len(self.words) > 3 and self.words[2] in WALKS

    def is_told(self):
        """Whether the steps of a run tell what holds behind the line."""
        return self.words[0] not in BLOCK_WORDS

    def registers(self):
        """The names of its registers."""
        names = [word for word, slot in zip(self.words, self._slots) if slot in REGISTERS]
        if self._reader is None:
            return names
        return names + self._reader.holders

    def changed(self):
        """The name of the row or mark that the line changes; None if it changes registers, or what is done next."""
        if self.action is None or self._slots[0] not in DEEDS:
            return None
        return self._parts()[0]

    def sources(self):
        """The names of the rows and marks (and `lots`) at which the line looks."""
        names = self._parts()
        if self.changed() is not None:
            names = names[1:]
        if self._reader is None:
            return names
        return names + self._reader.asked

    def _parts(self):
        """The names of the rows and marks that stand in its form."""
        return [word for word, slot in zip(self.words, self._slots) if slot in PARTS]


def frame_line(text, words):
    """The line `takes` or `gives`, which is never done: a run begins behind the one and ends before the other."""
    return Line(text, words, [words[0]] + ["A"] * (len(words) - 1), None, [], None)


def holding_line(name, other):
    """The line by which a register becomes what another one holds."""
    return Line(f"{name} = {other}", [name, "=", other], ["A", "=", "B"], take_held, [name, other], None)


def emptying_line(name):
    """The line by which a register becomes nothing."""
    return Line(f"{name} = nothing", [name, "=", "nothing"], ["A", "=", "nothing"], take_nothing, [name], None)


def idle_line():
    """A line that does nothing."""
    return Line("end", ["end"], ["end"], stay, [], None)


def read_line(scene, text, words):
    """The line of this text, which has these words, or None if it has none of the forms."""
    for form, action in FORMS.get(key_of(words), ()):
        slots = form.split(" ")
        if slots[-1] == "COND":
            head = slots[:-1]
            given = told_by(scene, words, head)
            if given is not None:
                return read_with_condition(scene, text, words, head, action, given)
        elif len(words) == len(slots):
            given = told_by(scene, words, slots)
            if given is not None:
                return Line(text, words, slots, action, given, None)
    return None


def key_of(words):
    """The word that tells which forms a line may have."""
    if len(words) < 3 or words[1] != "=":
        return words[0]
    if words[2] in FORMS:
        return words[2]
    return "="


def read_with_condition(scene, text, words, head, action, given):
    """The line of a head and a condition behind it, or None if there is none behind it."""
    reader = ConditionReader(scene, words, len(head), head[-1] == "where")
    try:
        condition = reader.whole()
    except BadSaying:
        return None
    return Line(text, words, head, action, [*given, condition], reader)


def told_by(scene, words, slots):
    """The words that a form leaves open, or None if the words do not begin with this form."""
    if len(words) < len(slots):
        return None
    told = []
    for word, slot in zip(words, slots):
        if slot.isupper():
            if not fits(scene, word, slot):
                return None
            told.append(word)
        elif word != slot:
            return None
    return told


def fits(scene, word, slot):
    """Whether a word may stand where a form leaves it open."""
    if slot in REGISTERS:
        return is_name(word)
    if slot == "MARK":
        return word in scene.marks
    if slot == "K":
        return word in NUMBERS
    return word in scene.rows
