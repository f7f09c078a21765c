"""What lies in the registers and on the buses of a RUN, told forward by spreads."""

from anydlooks.courses import whole_course, written_out
from anydlooks.errors import Unfit
from anydlooks.marks import fit_lines, has_line, is_list_of_terms
from anydlooks.residues import row_by


def bus_count(machine):
    """How many buses the machine has."""
    return max([-1] + [bus for bus in machine[1] if bus is not None]) + 1


class Sight:
    """LINES, the first ones of a RUN of the program or all, with sources and spreads."""

    def __init__(self, program, lines):
        self.machine = program[0]
        self.dealt = program[1]
        self.prime = program[0][0]
        self.lines = lines
        self.sources = _sources(self.dealt, self.lines)
        self.states = [_beginning(self.machine, self.sources)]
        self.writes = []
        for number, line in enumerate(self.lines):
            self._write(number, line)

    def _write(self, number, line):
        """Adds what the LINE writes, and what lies there behind it."""
        ahead, length = self.states[number], len(self.sources)
        if line[0] == "set":
            slots, factors = [own[0] for own in line[2]], [own[1] for own in line[2]]
            row = row_by(self.prime, [ahead[slot] for slot in slots], factors, length)
        elif line[0] == "draw":
            row = _unit(self.sources, [("draw", number)])
        else:
            row = self.states[line[2]][line[1]]
        behind = list(ahead)
        behind[line[1]] = row
        bus = self.machine[1][line[1]]
        if bus is not None:
            behind[len(self.machine[1]) + bus] = row
        self.writes.append(row)
        self.states.append(tuple(behind))

    def are_looks(self, thing):
        """Whether thing is LOOKS of the RUN."""
        many = len(self.lines)
        if not isinstance(thing, tuple) or not all([has_line(own, many) for own in thing]):
            return False
        return fit_lines(self.machine, [self.lines[mark[0]] for mark in thing], thing)

    def check_looks(self, looks):
        """Raises Unfit() if these are no LOOKS of the RUN."""
        if not self.are_looks(looks):
            raise Unfit()

    def check_terms(self, terms):
        """Raises Unfit() if these are no terms whose marks are LOOKS of the RUN."""
        if not is_list_of_terms(terms, self.prime):
            raise Unfit()
        self.check_looks(tuple([mark for mark, _ in terms]))

    def shown(self, mark):
        """The spread of what the mark shows."""
        number, word = mark[0], mark[1]
        line, ahead = self.lines[number], self.states[number]
        if word == "read":
            rows = [ahead[slot] for slot, _ in line[2]]
            return row_by(self.prime, rows, mark[2], len(self.sources))
        rows = [self.writes[number]]
        if word == "turn":
            rows.append(ahead[line[1]])
        elif word == "pass":
            rows.append(ahead[len(self.machine[1]) + self.machine[1][line[1]]])
        return row_by(self.prime, rows, (1, self.prime - 1), len(self.sources))

    def all_shown(self, looks):
        """The list of the spreads of what the looks show."""
        return [self.shown(mark) for mark in looks]

    def sum_shown(self, terms):
        """The spread of the sum of the RESIDUES times what the marks show."""
        rows = self.all_shown([mark for mark, _ in terms])
        return row_by(self.prime, rows, [residue for _, residue in terms], len(self.sources))

    def secret_rows(self):
        """The list of the spreads of the secrets."""
        return [_unit(self.sources, [("part", slot) for slot in own]) for own in self.dealt]


def run_sight(program, run):
    """The Sight of a RUN; raises Unfit() if run is none of the program."""
    return Sight(program, [line for line, _ in written_out(whole_course(program, run))])


def _sources(dealt, lines):
    parts = [("part", slot) for own in dealt for slot in own]
    return tuple(parts + [("draw", number) for number, line in enumerate(lines) if line[0] == "draw"])


def _unit(sources, ones):
    """The spread that is 1 at these sources and 0 elsewhere."""
    return tuple([int(own in ones) for own in sources])


def _beginning(machine, sources):
    slots = [_unit(sources, [("part", slot)]) for slot in range(len(machine[1]))]
    return tuple(slots + [_unit(sources, []) for _ in range(bus_count(machine))])
