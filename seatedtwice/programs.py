"""Programs: the lines of a script, read, and doing them."""

from seatedtwice.errors import BadScript
from seatedtwice.forms import Line, read_line
from seatedtwice.names import is_name
from seatedtwice.states import State

MOST_BLOCKS = 10
MOST_NAMES = 2


class Program:
    """The lines of a script over a scene; BadScript(line) tells the first line that is wrong or lacking."""

    def __init__(self, scene, lines):
        self.takes = ()
        self.gives = ()
        self.lines = []
        self._is_over = False
        # The blocks that are open, the innermost one last; the first one is the script itself.
        self._blocks = [Block("", 0, 1)]
        for number, line in enumerate(lines, start=1):
            if self._is_over or not self._add(scene, line.split(" ")):
                raise BadScript(number)
        if not self._is_over:
            raise BadScript(len(lines) + 1)
        self.walks = self._blocks[0].most_walks()

    def _add(self, scene, words):
        """Read one more line; False if it is wrong."""
        if not self.lines:
            return self._add_takes(words)
        if words[0] == "gives":
            return self._add_gives(words)
        line = read_line(scene, words)
        if line is None or not self._may_stand(words[0]):
            return False
        self.lines.append(line)
        if line.is_walk():
            self._count_walks(1)
        self._lead(line, words)
        return True

    def _add_takes(self, words):
        self.takes = tuple(words[1:])
        if words[0] != "takes" or not are_names(self.takes) or len(set(self.takes)) < len(self.takes):
            return False
        self.lines.append(frame_line(words))
        return True

    def _add_gives(self, words):
        self.gives = tuple(words[1:])
        if not are_names(self.gives) or len(self._blocks) > 1:
            return False
        self.lines.append(frame_line(words))
        self._is_over = True
        return True

    def _may_stand(self, word):
        """Whether a line with this first word can stand here."""
        if word == "if" or word == "times":
            return len(self._blocks) <= MOST_BLOCKS
        if word == "else":
            return self._blocks[-1].word == "if"
        return word != "end" or len(self._blocks) > 1

    def _lead(self, line, words):
        """Open or close a block if the line does, and tell the lines where they lead."""
        at = len(self.lines) - 1
        block = self._blocks[-1]
        if words[0] == "if":
            self._blocks.append(Block("if", at, 1))
        elif words[0] == "times":
            self._blocks.append(Block("times", at, int(words[1])))
        elif words[0] == "else":
            self.lines[block.at].lead_to(at + 1)
            block.begin_else(at)
        elif words[0] == "end":
            self._blocks.pop()
            self._count_walks(block.most_walks())
            if block.word == "times":
                line.lead_to(block.at + 1)
            else:
                self.lines[block.at].lead_to(at)

    def _count_walks(self, many):
        """The innermost open block has so many walks more."""
        block = self._blocks[-1]
        block.walks += many

    def registers(self):
        """The names of all registers, each one once."""
        return list({line.words[spot]: True for line in self.lines for spot in line.spots})

    def texts(self, names):
        """The texts of all lines with new names for the registers."""
        return [line.with_names(names) for line in self.lines]


class Block:
    """An open block of lines: the word and the index of the line that leads into it or past it, and its walks."""

    def __init__(self, word, at, times):
        self.word = word
        self.at = at
        self.times = times
        # The walks on a way through the lines so far, and through those before `else`.
        self.walks = 0
        self.walks_before = 0

    def begin_else(self, at):
        self.word = "else"
        self.at = at
        self.walks_before = self.walks
        self.walks = 0

    def most_walks(self):
        """The walks on a way through the whole block."""
        if self.walks_before > self.walks:
            return self.walks_before * self.times
        return self.walks * self.times


def are_names(words):
    """Whether words can stand behind `takes` or `gives`."""
    return len(words) <= MOST_NAMES and all([is_name(word) for word in words])


def frame_line(words):
    """The line `takes` or `gives`, which is never done: a run begins behind the one and ends before the other."""
    return Line(words, list(range(1, len(words))), None, [])


def end_of(program):
    """The index of the line `gives`, where each run ends."""
    return len(program.lines) - 1


def do_line(line, state):
    """Do a line, the one that comes next."""
    state.at += 1
    action = line.action
    action(state, *line.given)


def finish(program, state):
    """Do all lines that are left."""
    lines = program.lines
    end = end_of(program)
    while state.at < end:
        do_line(lines[state.at], state)


def finished(program, parts, inputs):
    """The state behind a run."""
    state = State(parts, dict(zip(program.takes, inputs)))
    finish(program, state)
    return state


def outputs_of(program, state):
    """What the registers of `gives` hold, a tuple of things or None."""
    return tuple([state.held.get(name) for name in program.gives])
