"""Conditions: reading them, as functions from a state to whether they are true in it."""

from seatedtwice.errors import BadSaying
from seatedtwice.names import is_name
from seatedtwice.parts import LOTS
from seatedtwice.states import IT

MOST_PARTS = 8
MOST_OPEN = 10


class ConditionReader:
    """Reads the condition that words from some index on make; raises BadSaying(index) with the first wrong word."""

    def __init__(self, scene, words, spot, has_it):
        self.scene = scene
        self.words = words
        self.spot = spot
        self.has_it = has_it
        # The names of the registers, and those of the rows and marks (and `lots`) that it asks.
        self.holders = []
        self.asked = []
        self.many_nots = 0
        self._many_parts = 0
        self._many_open = 0

    def whole(self):
        """The condition of all words."""
        condition = self._alternatives()
        if self.spot < len(self.words):
            raise BadSaying(self.spot)
        return condition

    def _alternatives(self):
        """What `or` joins."""
        condition = self._conjunction()
        while self._word() == "or":
            self.spot += 1
            condition = one_of(condition, self._conjunction())
        return condition

    def _conjunction(self):
        """What `and` joins."""
        condition = self._denied()
        while self._word() == "and":
            self.spot += 1
            condition = both_of(condition, self._denied())
        return condition

    def _denied(self):
        """A part or brackets, perhaps with `not` before it, perhaps more than once."""
        word = self._word()
        if word != "not" and word != "(":
            return self._part()
        if self._many_open == MOST_OPEN:
            raise BadSaying(self.spot)
        self._many_open += 1
        self.spot += 1
        if word == "not":
            self.many_nots += 1
            condition = none_of(self._denied())
            self.many_nots -= 1
        else:
            condition = self._alternatives()
            self._take([")"])
        self._many_open -= 1
        return condition

    def _part(self):
        if self._many_parts == MOST_PARTS:
            raise BadSaying(self.spot)
        self._many_parts += 1
        name = self._holder()
        word = self._take(self._words_behind_holder())
        if word == "missing":
            return missing(name)
        if word == "has":
            return has(name, self._take_asked(self.scene.marks))
        other = self._holder()
        if word == "is":
            return same(name, other)
        if word == "with":
            self.asked.append(LOTS)
            return together(name, other)
        return ahead(name, other, self._take_asked(self.scene.rows))

    def _words_behind_holder(self):
        """The words that can stand second in a part."""
        words = ["ahead", "is", "missing"]
        if self.scene.marks:
            words.append("has")
        if self.scene.has_lots:
            words.append("with")
        return words

    def _word(self):
        """The word that comes next; the empty text, which is right nowhere, if there is none."""
        if self.spot < len(self.words):
            return self.words[self.spot]
        return ""

    def _take(self, allowed):
        """The next word, which must be one of these."""
        word = self._word()
        if word not in allowed:
            raise BadSaying(self.spot)
        self.spot += 1
        return word

    def _take_asked(self, allowed):
        """The next word, which must be one of these rows or marks."""
        name = self._take(allowed)
        self.asked.append(name)
        return name

    def _holder(self):
        """The next word, which must be a register or, where it may stand, `it`."""
        word = self._word()
        if not is_name(word) and not (self.has_it and word == IT):
            raise BadSaying(self.spot)
        if word != IT:
            self.holders.append(word)
        self.spot += 1
        return word


def one_of(condition, other):
    return lambda state: condition(state) or other(state)


def both_of(condition, other):
    return lambda state: condition(state) and other(state)


def none_of(condition):
    return lambda state: not condition(state)


def missing(name):
    return lambda state: state.held.get(name) is None


def has(name, mark):
    # What bears a mark is a thing: None never does.
    return lambda state: state.held.get(name) in state.parts[mark]


def same(name, other):
    def is_true(state):
        one = state.held.get(name)
        return one is not None and one == state.held.get(other)

    return is_true


def together(name, other):
    def is_true(state):
        one, two = state.held.get(name), state.held.get(other)
        if one is None or two is None:
            return False
        lot_of = state.parts[LOTS]
        return lot_of[one] == lot_of[two]

    return is_true


def ahead(name, other, row):
    def is_true(state):
        one, two = state.held.get(name), state.held.get(other)
        if one is None or two is None:
            return False
        places = state.places(row)
        return places[one] < places[two]

    return is_true
