"""How what is asked goes through LINES, told backwards, by the cheapest marks that are let.

A view says which marks are let: it is a tuple that has, for each register, the tuple of the
pairs (word, price) of the sorts that are let at the LINES that write it, words ascending.

A state is one ASKING, or (of several tracks) several, one behind the other in one tuple, of
terms by the same marks. What is seen at a LINE is a tuple of pairs (rest, residues): what
follows the number in a mark, and the RESIDUES that the tracks have for it.
"""

from anydlooks.plain import all_rows
from anydlooks.rule import NOTHING_SEEN, ahead_of, asking_length


def full_view(machine):
    """The view that lets all marks, at the prices of their sorts."""
    return tuple([_sorts_at(machine, slot) for slot in range(len(machine[1]))])


def _sorts_at(machine, slot):
    """The sorts of LINES that write the register."""
    return tuple([own for own in machine[2] if own[0] != "pass" or machine[1][slot] is not None])


class LineMoves:
    """How states go through one LINE.

    A move is a triple (change, price, seen). What is asked ahead of the LINE is a sum of what
    the state behind it asks, and of the change that marks make. Behind a change stands, for a
    draw or a put back, what the tracks ask of what is written.
    """

    def __init__(self, machine, words, line, tracks):
        self.machine = machine
        self.line = line
        self.tracks = tracks
        self.length = asking_length(machine)
        self.width = self.length * tracks
        self.known = {}
        self.moves = [(self._through((0,) * self.width, [NOTHING_SEEN] * tracks), 0, ())]
        for word, price in words:
            self.moves = self._with_word(word, price)

    def _through(self, state, seens):
        """What is asked ahead, and, but for a set, of what is written."""
        ahead, wanted = [], []
        for track, seen in enumerate(seens):
            asking = state[track * self.length:(track + 1) * self.length]
            own, asked = ahead_of(self.machine, self.line, asking, seen)
            ahead.extend(own)
            wanted.append(asked)
        return tuple(ahead) if self.line[0] == "set" else tuple(ahead + wanted)

    def _with_word(self, word, price):
        """The moves with or without one more mark of this sort; for each change the cheapest."""
        best = {change: (own, len(seen), seen) for change, own, seen in self.moves}
        for rest in self._marks(word):
            for residues in all_rows(self.machine[0], self.tracks)[1:]:
                more = self._through((0,) * self.width, [_seen(rest, own) for own in residues])
                for change, own, seen in self.moves:
                    key = self._sum(change, more)
                    worth = (own + price, len(seen) + 1, (*seen, (rest, residues)))
                    best[key] = min(worth, best.get(key, worth))
        return [(change, best[change][0], best[change][2]) for change in best]

    def _marks(self, word):
        """What follows the number in the marks of this sort; of reads one for all multiples."""
        if word != "read":
            return [(word,)]
        if self.line[0] != "set":
            return []
        rows = all_rows(self.machine[0], len(self.line[2]))
        return [(word, row) for row in rows if any(row) and [own for own in row if own][0] == 1]

    def _sum(self, one, other):
        return tuple([(own + more) % self.machine[0] for own, more in zip(one, other)])

    def ahead(self, state):
        """The list of the quadruples (state ahead, what is asked of what is written, price, seen)."""
        if state not in self.known:
            self.known[state] = self._all_ahead(state)
        return self.known[state]

    def quiet_ahead(self, state):
        """What is asked ahead, and, but for a set, of what is written, if nothing is seen."""
        return self._through(state, [NOTHING_SEEN] * self.tracks)

    def _all_ahead(self, state):
        quiet, found = self.quiet_ahead(state), []
        for change, price, seen in self.moves:
            asked = self._sum(quiet, change)
            wanted = asked[self.width:]
            if self.line[0] != "draw" or not any(wanted):
                found.append((asked[:self.width], wanted, price, seen))
        return found


def _seen(rest, residue):
    """What the rule sees, if one mark has this RESIDUE."""
    if rest[0] == "read":
        return 0, 0, 0, tuple([own * residue for own in rest[1]])
    return tuple([residue if own == rest[0] else 0 for own in ("put", "turn", "pass")] + [()])


class Moves:
    """The LineMoves of all LINES by one view."""

    def __init__(self, machine, view, tracks):
        self.machine = machine
        self.view = view
        self.tracks = tracks
        self.length = asking_length(machine)
        self.lines = {}

    def of_line(self, line):
        """The LineMoves of a LINE, of a put back without where its call begins."""
        if line not in self.lines:
            self.lines[line] = LineMoves(self.machine, self.view[line[1]], line, self.tracks)
        return self.lines[line]

    def with_put_backs(self, state, added):
        """The state with what put backs ask added, pairs (register, what the tracks ask)."""
        if not added:
            return state
        result = list(state)
        for slot, wanted in added:
            for track, residue in enumerate(wanted):
                place = track * self.length + slot
                result[place] = (result[place] + residue) % self.machine[0]
        return tuple(result)

    def nobody(self):
        """The state in which nobody asks."""
        return (0,) * (self.length * self.tracks)
