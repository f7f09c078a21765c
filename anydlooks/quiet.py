"""What is asked at the beginning of all RUNS, something being asked behind them, if nobody looks.

None stands for what asks a draw: whatever else is asked, that is even.
"""

from anydlooks.blocks import MANY
from anydlooks.rule import NOTHING_SEEN, ahead_of, with_added
from anydlooks.search import Search


class QuietLine:
    """How what is asked goes through one LINE at which nobody looks."""

    def __init__(self, machine, line):
        self.machine = machine
        self.line = line

    def ahead(self, state):
        """The one quadruple (state ahead, what is asked of what is written, price, seen)."""
        if state is None:
            return [(None, 0, 0, ())]
        asked, wanted = ahead_of(self.machine, self.line, state, NOTHING_SEEN)
        if self.line[0] == "draw" and wanted:
            asked = None
        return [(asked, wanted, 0, ())]


class QuietMoves:
    """The QuietLines of all LINES, as a Search [search.py] goes through them."""

    def __init__(self, machine):
        self.machine = machine

    def of_line(self, line):
        """The QuietLine of a LINE, of a put back without where its call begins."""
        return QuietLine(self.machine, line)

    def with_put_backs(self, state, added):
        """The state with what put backs ask added, pairs (register, what is asked)."""
        return None if state is None else with_added(self.machine[0], state, added)


class KeepAll:
    """What a Search keeps of blocks: everything."""

    def only_best(self, _, front):
        """The whole front."""
        return front


def least_beginnings(program, behind):
    """A dict that tells by what is asked at the beginning the triple (lines, count, run) of the least RUN."""
    search = Search(program, 0, QuietMoves(program[0]), "cheap", 0, (MANY, MANY), KeepAll())
    found = search.through(behind)
    return {state: best[0][1:] for (state, _), best in found.items()}
