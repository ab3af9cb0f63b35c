"""Programs: the lines of a script, what hangs on what in them, and doing them."""

from seatedtwice.forms import emptying_line, holding_line, idle_line
from seatedtwice.names import form_names
from seatedtwice.states import State


class Program:
    """What a script does: its lines with `takes` and `gives`, and how many walks are on a way through them."""

    def __init__(self, takes, gives, lines, walks):
        self.takes = takes
        self.gives = gives
        self.lines = lines
        self.walks = walks
        # What was asked for once is kept here.
        self._registers = None
        self._changed = None
        self._links = None

    def written(self):
        """The text of a script that does this."""
        return "\n".join([line.text for line in self.lines])

    def registers(self):
        """A dict of True for the names of all registers."""
        if self._registers is None:
            self._registers = {name: True for line in self.lines for name in line.registers()}
        return self._registers

    def changed(self):
        """A list of the names of the rows and marks that the lines change, None for a line that changes none."""
        if self._changed is None:
            self._changed = [line.changed() for line in self.lines]
        return self._changed

    def links(self):
        """A dict from the rows and marks that lines change to those at which these lines look, a dict of True each.

        Under None stand those that decide what registers hold and which lines are done.
        """
        if self._links is None:
            links = {None: {}}
            for name, line in zip(self.changed(), self.lines):
                asked = links.setdefault(name, {})
                for other in line.sources():
                    asked[other] = True
            self._links = links
        return self._links

    def has_blocks(self):
        return not all([line.is_told() for line in self.lines])


def reached(programs, names):
    """A dict of True for the rows and marks (and `lots`) that decide how these stand behind a run.

    Those are always told, too, that decide what registers hold and which lines are done.
    """
    told = {name: True for name in names}
    left = [None, *names]
    while left:
        name = left.pop()
        for program in programs:
            for other in program.links().get(name, ()):
                if other not in told:
                    told[other] = True
                    left.append(other)
    return told


def within(program, names):
    """The program without what changes other rows and marks than these."""
    stays = [name is None or name in names for name in program.changed()]
    if all(stays):
        return program
    if program.has_blocks():
        # A block leads over a number of lines, which must stay as it is.
        lines = [line if is_kept else idle_line() for line, is_kept in zip(program.lines, stays)]
    else:
        lines = [line for line, is_kept in zip(program.lines, stays) if is_kept]
    return Program(program.takes, program.gives, lines, program.walks)


def joined(first, then):
    """The program that does the lines of the first one, hands its outputs on, and does the lines of the other one."""
    lines = first.lines[:-1] + handing_lines(first, then) + then.lines[1:]
    return Program(first.takes, then.gives, lines, first.walks + then.walks)


def handing_lines(first, then):
    """The lines between two programs, behind which the registers of the other one hold its inputs and nothing else."""
    held = first.registers()
    used = then.registers()
    lines = [holding_line(name, other) for name, other in in_turn(then.takes, first.gives, {**held, **used})]
    lines.extend([emptying_line(name) for name in used if name in held and name not in then.takes])
    return lines


def in_turn(takes, gives, known):
    """Pairs of names: if each first one is given what the second one holds, in turn, `takes` hold what `gives` held."""
    pairs = [(name, other) for name, other in zip(takes, gives) if name != other]
    if len(pairs) < 2 or pairs[0][0] != pairs[1][1]:
        return pairs
    if pairs[1][0] != pairs[0][1]:
        return pairs[::-1]
    # Both exchange what they hold: another register keeps what the first one held.
    spare = [name for name in form_names(len(known) + 1) if name not in known][0]
    return [(spare, pairs[0][0]), pairs[0], (pairs[1][0], spare)]


def finish(program, state):
    """Do all lines that are left."""
    lines = program.lines
    # The line `gives`, at which each run ends, is not done.
    end = len(lines) - 1
    while state.line < end:
        # What do_line does, here without a call for each line of the many runs of a search.
        line = lines[state.line]
        state.line += 1
        action = line.action
        action(state, *line.given)


def do_line(line, state):
    """Do a line, the one that comes next."""
    state.line += 1
    action = line.action
    action(state, *line.given)


def finished(program, things, parts, inputs):
    """The state behind a run."""
    state = State(parts, dict(zip(program.takes, inputs)), things)
    finish(program, state)
    return state


def outputs_of(program, state):
    """What the registers of `gives` hold, a tuple of things or None."""
    return tuple([state.held.get(name) for name in program.gives])
