"""Blocks: reading sayings, which are conditions that may have `all` and `some` as parts."""

from seatedtwice.conditions import ConditionReader
from seatedtwice.errors import BadSaying
from seatedtwice.names import is_name
from seatedtwice.states import FOR_FALSE, FOR_TRUE

MOST_BLOCKS = 3


class SayingReader(ConditionReader):
    """Reads a saying; raises BadSaying(index) with the first wrong word, or the number of words if some are lacking."""

    def __init__(self, scene, words):
        super().__init__(scene, words, 0, False)
        self.is_bare = True
        # How many things at most make blocks so that they let the saying be true, and how many so that it can be false.
        self.needed = {FOR_TRUE: 0, FOR_FALSE: 0}
        # The bound names of the open block.
        self._bound = []
        self._many_blocks = 0

    def _part(self):
        word = self._word()
        if word != "all" and word != "some":
            return super()._part()
        if self._bound or self._many_blocks == MOST_BLOCKS:
            raise BadSaying(self.spot)
        self._many_blocks += 1
        self.spot += 1
        return self._block(word == "some")

    def _block(self, sought):
        """The block whose names come next; one thing for which the condition is as it is sought makes it so, too."""
        names = [self._bound_name([])]
        if self._word() != "(":
            names.append(self._bound_name(names))
        self._take(["("])
        self._bound = names
        condition = self._alternatives()
        self._bound = []
        self._take([")"])
        hope = FOR_FALSE
        # Behind an odd number of `not`s a true block lets the saying be false.
        if sought == (self.many_nots % 2 == 0):
            hope = FOR_TRUE
        self.needed[hope] += len(names)
        if len(names) == 1:
            return block_of_one(names[0], condition, sought, hope)
        return block_of_two(names[0], names[1], condition, sought, hope)

    def _bound_name(self, taken):
        """The next word, which must be a name that is not taken."""
        word = self._word()
        if not is_name(word) or word in taken:
            raise BadSaying(self.spot)
        self.spot += 1
        return word

    def _holder(self):
        word = super()._holder()
        if word not in self._bound:
            self.is_bare = False
        return word


def block_of_one(name, condition, sought, hope):
    """Whether for a thing the condition is as it is sought, if that is true; whether for none, if that is false."""
    def is_true(state):
        if state.hope == hope:
            return sought
        return state.finds(name, condition, sought) == sought

    return is_true


def block_of_two(name, other, condition, sought, hope):
    """Likewise for two things, which may be one thing."""
    def is_found(state):
        return state.finds(other, condition, sought)

    def is_true(state):
        if state.hope == hope:
            return sought
        return state.finds(name, is_found, True) == sought

    return is_true
