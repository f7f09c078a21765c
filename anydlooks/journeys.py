"""Going along a RUN step by step, with numbers, up to where something is chosen or drawn."""

from anydlooks.courses import backs_of, block_sizes, item_size, way_size
from anydlooks.sights import bus_count


class Journey:
    """How far somebody has come along a RUN of a program, and what lies there.

    steps are quadruples (line, wrote, slots, buses): a LINE done, what it wrote, and what lay
    in registers and on buses ahead of it. wanted is as Engine [23] tells it.
    """

    def __init__(self, program, shares):
        self.machine = program[0]
        self.blocks = program[2]
        self.sizes = block_sizes(program[2])
        self.slots = [0] * len(program[0][1])
        self.on_buses = [0] * bus_count(program[0])
        for own, residues in zip(program[1], shares):
            for slot, residue in zip(own, residues):
                self.slots[slot] = residue
        self.steps = []
        self.asker = None
        self.wanted = None
        self.frames = [("way", program[2][0], 0, ())]
        self._go_on()

    def place(self):
        """What go_back_to needs to come back here."""
        return tuple(self.frames), tuple(self.slots), tuple(self.on_buses), len(self.steps), self.asker, self.wanted

    def go_back_to(self, place):
        """Takes back all that was done since."""
        frames, slots, buses, many, self.asker, self.wanted = place
        self.frames, self.slots, self.on_buses = list(frames), list(slots), list(buses)
        self.steps = self.steps[:many]

    def twin(self, program, shares):
        """A Journey of the same program and shares that has come as far."""
        other = Journey(program, shares)
        other.go_back_to(self.place())
        other.steps = list(self.steps)
        return other

    def choose(self, number):
        """Goes on by this number of the "one" or "many" that is wanted."""
        if self.asker[0] == "one":
            self.frames.append(("way", self.asker[1][number], 0, ()))
        else:
            self.frames.append(("loop", self.asker[1], number, ()))
        self._go_on()

    def draw(self, residue):
        """Goes on by what is drawn."""
        self._write(("draw", self.asker[1], ()), residue)
        self._go_on()

    def _go_on(self):
        self.asker, self.wanted = None, None
        while self.frames and self.wanted is None:
            word, what, number, held = self.frames.pop()
            if word == "way":
                self._enter(what, number)
            elif word == "backs":
                for line in backs_of(what, number):
                    self._write(line, held[line[1]])
            elif number and way_size(what, self.sizes) != 0:
                # A way without LINES and choices changes nothing, however often it is gone.
                self.frames.append(("loop", what, number - 1, ()))
                self.frames.append(("way", what, 0, ()))

    def _enter(self, way, place):
        if place == len(way):
            return
        if place + 1 < len(way):
            self.frames.append(("way", way, place + 1, ()))
        item = way[place]
        if item[0] == "set":
            self._write(item, sum([self.slots[slot] * factor for slot, factor in item[2]]) % self.machine[0])
        elif item[0] != "call":
            self.asker = item
            self.wanted = ("many",) if item[0] == "many" else (item[0], len(item[1])) if item[0] == "one" else item
        elif item_size(item, self.sizes) != 0:
            self._call(item)

    def _call(self, item):
        if item[2]:
            self.frames.append(("backs", item, len(self.steps), tuple(self.slots)))
        self.frames.append(("way", self.blocks[item[1]], 0, ()))

    def _write(self, line, residue):
        self.steps.append((line, residue, tuple(self.slots), tuple(self.on_buses)))
        self.slots[line[1]] = residue
        bus = self.machine[1][line[1]]
        if bus is not None:
            self.on_buses[bus] = residue

    def shown(self, mark):
        """The RESIDUE that a MARK of a LINE done shows."""
        line, wrote, slots, buses = self.steps[mark[0]]
        if mark[1] == "put":
            return wrote
        if mark[1] == "turn":
            return (wrote - slots[line[1]]) % self.machine[0]
        if mark[1] == "pass":
            return (wrote - buses[self.machine[1][line[1]]]) % self.machine[0]
        return sum([own * slots[pair[0]] for own, pair in zip(mark[2], line[2])]) % self.machine[0]
