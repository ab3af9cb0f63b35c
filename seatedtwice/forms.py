"""Forms: the forms that the lines of a script can have, and what a line of each form does to the state of a run."""

from seatedtwice.conditions import ConditionReader
from seatedtwice.errors import BadSaying
from seatedtwice.names import is_name

WALKS = ("next", "prev", "first", "last")
BLOCK_WORDS = ("if", "else", "times", "end")
NUMBERS = ("1", "2", "3", "4", "5")


def take_next(state, name, start, row, condition=None):
    state.walk(name, state.behind(start, row), condition)


def take_prev(state, name, start, row, condition=None):
    state.walk(name, state.ahead_of(start, row), condition)


def take_first(state, name, row, condition=None):
    state.walk(name, state.parts[row], condition)


def take_last(state, name, row, condition=None):
    state.walk(name, state.parts[row][::-1], condition)


def take_held(state, name, other):
    state.held[name] = state.held.get(other)


def take_nothing(state, name):
    state.held[name] = None


def put_behind(state, name, other, row):
    put(state, name, other, row, 1)


def put_ahead(state, name, other, row):
    put(state, name, other, row, 0)


def put(state, name, other, row, shift):
    """Take a thing out of a row and put it in again, at the place of the other one or behind it."""
    if state.has_two(name, other):
        thing = state.held[name]
        order = [one for one in state.parts[row] if one != thing]
        order.insert(order.index(state.held[other]) + shift, thing)
        state.change(row, order)


def swap(state, name, other, row):
    if state.has_two(name, other):
        thing, beside = state.held[name], state.held[other]
        exchanged = {thing: beside, beside: thing}
        state.change(row, [exchanged.get(one, one) for one in state.parts[row]])


def turn(state, row):
    state.change(row, state.parts[row][::-1])


def sort_by(state, row, other):
    state.change(row, state.parts[other])


def gather(state, row, condition):
    # All is asked before the row changes: the condition is about the world before this line.
    wanted = state.wanted(state.parts[row], condition)
    taken = {thing: True for thing in wanted}
    state.change(row, wanted + [thing for thing in state.parts[row] if thing not in taken])


def set_mark(state, name, mark):
    thing = state.held.get(name)
    if thing is not None:
        state.change(mark, {**state.parts[mark], thing: True})


def unset_mark(state, name, mark):
    thing = state.held.get(name)
    if thing is not None:
        state.change(mark, {one: True for one in state.parts[mark] if one != thing})


def skip_unless(state, condition, target):
    """Go to a line if the condition is false."""
    if not condition(state):
        state.at = target


def skip(state, target):
    """Go to a line."""
    state.at = target


def begin_times(state, many):
    state.left.append(int(many))


def end_block(state, start=None):
    """Do a `times` block again from its first line, as often as is left; nothing is to be done for other blocks."""
    if start is None:
        return
    state.left[-1] -= 1
    if state.left[-1] > 0:
        state.at = start
    else:
        state.left.pop()


# Words in capital letters stand for what a line may have at their place.
FORMS = {
    "A = next B ROW": take_next,
    "A = next B ROW where COND": take_next,
    "A = prev B ROW": take_prev,
    "A = prev B ROW where COND": take_prev,
    "A = first ROW": take_first,
    "A = first ROW where COND": take_first,
    "A = last ROW": take_last,
    "A = last ROW where COND": take_last,
    "A = B": take_held,
    "A = nothing": take_nothing,
    "if COND": skip_unless,
    "else": skip,
    "times K": begin_times,
    "end": end_block,
    "put A behind B ROW": put_behind,
    "put A ahead B ROW": put_ahead,
    "swap A B ROW": swap,
    "turn ROW": turn,
    "sort ROW by OTHER": sort_by,
    "gather ROW where COND": gather,
    "mark A MARK": set_mark,
    "unmark A MARK": unset_mark,
}


class Line:
    """A line of a script: its words, the indexes of those that are registers, what it does, and to what."""

    def __init__(self, words, spots, action, given):
        self.words = words
        self.spots = spots
        self.action = action
        self.given = given

    def lead_to(self, target):
        """The line can go on at another line than the one behind it."""
        self.given = [*self.given, target]

    def is_walk(self):
        return len(self.words) > 3 and self.words[2] in WALKS

    def is_told(self):
        """Whether the steps of a run tell what holds behind the line."""
        return self.words[0] not in BLOCK_WORDS

    def with_names(self, names):
        """The text of the line with new names for its registers."""
        words = list(self.words)
        for spot in self.spots:
            words[spot] = names[words[spot]]
        return " ".join(words)


def read_line(scene, words):
    """The line that words make, or None if they have none of the forms."""
    for form, action in FORMS.items():
        slots = form.split(" ")
        if slots[-1] == "COND":
            head = slots[:-1]
            if len(words) >= len(head) and has_form(scene, words, head):
                return read_with_condition(scene, words, head, action)
        elif len(words) == len(slots) and has_form(scene, words, slots):
            return Line(words, spots_of(slots), action, told_by(words, slots))
    return None


def read_with_condition(scene, words, head, action):
    """The line of a head and a condition behind it, or None if there is none behind it."""
    reader = ConditionReader(scene, words, len(head), head[-1] == "where")
    try:
        condition = reader.whole()
    except BadSaying:
        return None
    return Line(words, spots_of(head) + reader.spots, action, [*told_by(words, head), condition])


def has_form(scene, words, slots):
    """Whether each word may stand at its place in a form."""
    return all([fits(scene, word, slot) for word, slot in zip(words, slots)])


def fits(scene, word, slot):
    """Whether a word may stand at a place of a form."""
    if slot == "A" or slot == "B":
        return is_name(word)
    if slot == "ROW" or slot == "OTHER":
        return word in scene.rows
    if slot == "MARK":
        return word in scene.marks
    if slot == "K":
        return word in NUMBERS
    return word == slot


def spots_of(slots):
    """The indexes of the registers in a form."""
    return [at for at, slot in enumerate(slots) if slot == "A" or slot == "B"]


def told_by(words, slots):
    """The words of a line that its form leaves open."""
    return [word for word, slot in zip(words, slots) if slot.isupper()]
