"""The texts of scripts: reading their lines and the blocks that these make."""

from seatedtwice.errors import BadScript
from seatedtwice.forms import frame_line, read_line
from seatedtwice.names import is_name
from seatedtwice.programs import Program

MOST_BLOCKS = 10
MOST_NAMES = 2


def read_program(scene, lines):
    """The program of these lines; BadScript(line) tells the first one that is wrong or lacking."""
    reader = ProgramReader(scene)
    for number, line in enumerate(lines, start=1):
        if reader.is_over or not reader.add(line):
            raise BadScript(number)
    if not reader.is_over:
        raise BadScript(len(lines) + 1)
    return reader.read()


class ProgramReader:
    """Reads the lines of a script, one by one."""

    def __init__(self, scene):
        self.is_over = False
        self._scene = scene
        self._takes = ()
        self._gives = ()
        self._lines = []
        # Lines that were read already, by their texts: those of no block, which can stand in more than one place.
        self._known = {}
        # The blocks that are open, the innermost one last; the first one is the script itself.
        self._blocks = [Block("", 0, 1)]

    def read(self):
        """The program of all lines."""
        return Program(self._takes, self._gives, self._lines, self._blocks[0].most_walks())

    def add(self, text):
        """Read one more line; False if it is wrong."""
        if text in self._known:
            self._keep(self._known[text])
            return True
        words = text.split(" ")
        if not self._lines:
            return self._add_takes(text, words)
        if words[0] == "gives":
            return self._add_gives(text, words)
        line = read_line(self._scene, text, words)
        if line is None or not self._may_stand(words[0]):
            return False
        self._keep(line)
        if line.is_told():
            self._known[text] = line
        else:
            self._lead(line, words)
        return True

    def _keep(self, line):
        """One more line is right."""
        self._lines.append(line)
        if line.is_walk():
            self._count_walks(1)

    def _add_takes(self, text, words):
        self._takes = tuple(words[1:])
        if words[0] != "takes" or not are_names(self._takes) or len(set(self._takes)) < len(self._takes):
            return False
        self._lines.append(frame_line(text, words))
        return True

    def _add_gives(self, text, words):
        self._gives = tuple(words[1:])
        if not are_names(self._gives) or len(self._blocks) > 1:
            return False
        self._lines.append(frame_line(text, words))
        self.is_over = True
        return True

    def _may_stand(self, word):
        """Whether a line with this first word can stand here."""
        if word == "if" or word == "times":
            return len(self._blocks) <= MOST_BLOCKS
        if word == "else":
            return self._blocks[-1].word == "if"
        return word != "end" or len(self._blocks) > 1

    def _lead(self, line, words):
        """Open or close a block if the line does, and tell the lines where they lead."""
        at = len(self._lines) - 1
        block = self._blocks[-1]
        if words[0] == "if":
            self._blocks.append(Block("if", at, 1))
        elif words[0] == "times":
            self._blocks.append(Block("times", at, int(words[1])))
        elif words[0] == "else":
            self._lines[block.line].lead_on(at - block.line)
            block.begin_else(at)
        elif words[0] == "end":
            self._blocks.pop()
            self._count_walks(block.most_walks())
            if block.word == "times":
                line.lead_on(at - block.line)
            else:
                self._lines[block.line].lead_on(at - block.line - 1)

    def _count_walks(self, many):
        """The innermost open block has so many walks more."""
        block = self._blocks[-1]
        block.walks += many


class Block:
    """An open block of lines: the word and the index of the line that leads into it or past it, and its walks."""

    def __init__(self, word, line, times):
        self.word = word
        self.line = line
        self.times = times
        # The walks on a way through the lines so far, and through those before `else`.
        self.walks = 0
        self.walks_before = 0

    def begin_else(self, line):
        self.word = "else"
        self.line = line
        self.walks_before = self.walks
        self.walks = 0

    def most_walks(self):
        """The walks on a way through the whole block."""
        if self.walks_before > self.walks:
            return self.walks_before * self.times
        return self.walks * self.times


def are_names(words):
    """Whether words can stand behind `takes` or `gives`."""
    return len(words) <= MOST_NAMES and all([is_name(word) for word in words])
