"""Least prices of programs with too many ASKINGS to list them: block 0 has LINES and calls alone.

What is asked is told by a sum of the sources, packed [packs.py]: of the parts, of what draws of
block 0 write, and, for each of its calls, of what lies behind it in the registers and on the
buses that the block called can touch. A call turns what is asked of its own sources into what is
asked ahead of it, as the least table of the block called tells.

Ahead of an item only that is kept which can still come to tell, by marks ahead of it. This is
one space; it is told by coordinates, such that the first ones tell it ahead of each item.
"""

from anydlooks.blocks import BY_PRICE, Pieces
from anydlooks.packs import Packs
from anydlooks.plain import as_set, power
from anydlooks.rule import asking_length
from anydlooks.touches import block_touches
from anydlooks.ways import calls_in, changed_way, led_to

_MOST_LISTED = 128


def is_wide(program):
    """Whether the ASKINGS are too many, and block 0 is called by none and has LINES and calls that keep nothing."""
    if power(program[0][0], asking_length(program[0])) <= _MOST_LISTED:
        return False
    if any([0 in calls_in(way) for way in program[2]]):
        return False
    return all([item[0] in ("set", "draw") or item[0] == "call" and not item[2] for item in program[2][0]])


def _told_anew(item, slots):
    """The items that come of one, registers being told by their places among slots."""
    if item[0] == "set":
        return (("set", slots.index(item[1]), tuple([(slots.index(own), more) for own, more in item[2]])),)
    if item[0] == "draw":
        return (("draw", slots.index(item[1])),)
    return (("call", item[1], tuple([slots.index(own) for own in item[2]])),)


def _narrowed(blocks, number, slots):
    """The blocks of a program of these slots alone; those to which no calls lead from the one are empty."""
    calls = [(block, callee) for block, way in enumerate(blocks) for callee in calls_in(way)]
    needed = (number, *led_to(calls, (number,)))
    return [changed_way(way, lambda item: _told_anew(item, slots)) if block in needed else ()
            for block, way in enumerate(blocks)]


class Called:
    """What a block called makes: of what is asked at its coordinates, registers first, then buses."""

    def __init__(self, program, view, most, number):
        prime, buses, sorts = program[0]
        written, read = block_touches(program[2])[number]
        slots = as_set(written + read)
        used = as_set([buses[slot] for slot in written if buses[slot] is not None])
        lying = [used.index(buses[slot]) if slot in written and buses[slot] in used else None for slot in slots]
        self.coordinates = slots + tuple([len(buses) + bus for bus in used])
        own_view = tuple([view[slot] for slot in slots])
        pieces = Pieces((prime, tuple(lying), sorts), own_view, most, BY_PRICE, False)
        self.table = pieces.places.table(pieces.least(_narrowed(program[2], number, slots))[number])


class Step:
    """One item of block 0: what can be asked ahead of it, the lowest bits of packs of coordinates.

    A LINE has marks, pairs (price, packs shown), which can be added to what is asked. A call has
    changes: by the bits that have to go the prices, by the other bits, of what can be added.
    """

    def __init__(self, bits):
        self.bits = bits
        self.marks = []
        self.changes = None

    def add_change(self, pack, price):
        """One more of what can be added at a call."""
        low = pack & (1 << self.bits) - 1
        found = self.changes.setdefault(pack - low, {})
        if price < found.get(low, price + 1):
            found[low] = price


class Wide:
    """The search of such a program for its least price, with marks that a view lets.

    A state is a coset (pack, space) of what can be asked; it tells if it is more than 0.
    """

    def __init__(self, program, view, most):
        self.program = program
        self.prime = program[0][0]
        self.view = view
        self.most = most
        self.blocks = {}
        self.way = program[2][0]
        parts = [slot for own in program[1] for slot in own]
        self.width = 4 * (len(parts) + sum([self._sources_of(item) for item in self.way]))
        # Sources stand in the upper half of a pack, and coordinates in the lower one.
        self.packs = Packs(self.prime, self.width // 2)
        self.space = ()
        self.sources = 0
        self.many = 0
        self.held = [0] * asking_length(program[0])
        for slot in parts:
            self.held[slot] = self._new_source()
        for own in program[1]:
            self._coordinates(self._sum([(slot, 1) for slot in own]))
        self.greatest = 0
        self.steps = [self._step(item) for item in self.way]

    def _called(self, number):
        if number not in self.blocks:
            self.blocks[number] = Called(self.program, self.view, self.most, number)
        return self.blocks[number]

    def _sources_of(self, item):
        if item[0] == "call":
            return len(self._called(item[1]).coordinates)
        return int(item[0] == "draw")

    def _new_source(self):
        self.sources += 1
        return 1 << 4 * self.sources - 4

    def _sum(self, pairs):
        """The sum of what registers and buses hold, each times its factor."""
        found = 0
        for place, factor in pairs:
            found = self.packs.plus(found, self.packs.times(factor, self.held[place]))
        return found

    def _coordinates(self, row):
        """The coordinates of what can be asked; it is a new one, if it is no sum of others."""
        rest = self.packs.rest(row << self.width, self.space)
        if not rest >> self.width:
            return self.packs.less(0, rest)
        new = 1 << 4 * self.many
        self.many += 1
        self.space = self.packs.wider(self.space, [row << self.width | new])
        return new

    def _step(self, item):
        """The Step of the item; goes on behind it."""
        step = Step(4 * self.many)
        if item[0] == "call":
            self._call(step, self._called(item[1]))
        else:
            self._line(step, item)
        return step

    def _line(self, step, item):
        slot = item[1]
        bus = self.program[0][1][slot]
        written = self._new_source() if item[0] == "draw" else self._sum(item[2])
        shown = {"put": [written], "turn": [self.packs.less(written, self.held[slot])]}
        if item[0] == "set":
            shown["read"] = [self.held[own] for own, _ in item[2]]
        if bus is not None:
            place = len(self.program[0][1]) + bus
            shown["pass"] = [self.packs.less(written, self.held[place])]
            self.held[place] = written
        self.held[slot] = written
        prices = {word: price for word, price in self.view[slot] if word in shown}
        if "read" in prices and prices["read"] <= prices.get("put", 0):
            # What is written is one of what a read can show.
            prices.pop("put")
        for word in prices:
            packs = self.packs.wider((), [self._coordinates(row) for row in shown[word]])
            step.marks.append((prices[word], packs))
            self.greatest += prices[word]

    def _call(self, step, called):
        step.changes = {}
        packs, best = [self.held[place] for place in called.coordinates], {}
        for place in called.coordinates:
            self.held[place] = self._new_source()
            packs.append(self.packs.less(0, self.held[place]))
        for near, far, price in called.table:
            row = 0
            for residue, pack in zip(near + far, packs):
                row = self.packs.plus(row, self.packs.times(residue, pack))
            best[row] = min(price, best.get(row, price))
        for row, price in best.items():
            step.add_change(self._coordinates(row), price)
        self.greatest += max(list(best.values()))

    def price(self):
        """The least price of a TELLING; None if there is none, of price most at most, if most is not None."""
        if not self._can_tell():
            return None
        many = len(self.steps)
        waiting, known = {(0, many): [(0, ())]}, [{} for _ in range(many + 1)]
        limit = self.greatest if self.most is None else min(self.most, self.greatest)
        for price in range(limit + 1):
            for number in reversed(range(many)):
                states = waiting.get((price, number + 1), [])
                for state in states:
                    if state in known[number + 1]:
                        continue
                    known[number + 1][state] = True
                    for ahead, more in self._ahead(self.steps[number], state):
                        waiting.setdefault((price + more, number), []).append(ahead)
            if any([pack or space for pack, space in waiting.get((price, 0), [])]):
                return price
        return None

    def _can_tell(self):
        """Whether anything is told at whatever price."""
        states = [(0, ())]
        for step in reversed(self.steps):
            found = []
            for pack, space in states:
                if step.changes is not None:
                    found.extend([own for own, _ in self._ahead_of_call(step, pack, space)])
                else:
                    every = [own for _, packs in step.marks for own in packs]
                    found.append(self._within(step, pack, self.packs.wider(space, every)))
            states = as_set([own for own in found if own is not None])
        return any([pack or space for pack, space in states])

    def _within(self, step, pack, space):
        """The coset of what can still come to tell ahead of the step; None if there is none."""
        rest = self.packs.rest(pack, space)
        if rest >> step.bits:
            return None
        # All multiples of a coset have the same price.
        return self.packs.led(rest), tuple([own for own in space if not own >> step.bits])

    def _ahead(self, step, state):
        """The list of the pairs (state ahead of the step, price)."""
        pack, space = state
        if step.changes is not None:
            return self._ahead_of_call(step, pack, space)
        found = [(space, 0)]
        for price, packs in step.marks:
            wider = [(own, self.packs.wider(own, packs), paid + price) for own, paid in found]
            found.extend([(more, paid) for own, more, paid in wider if more != own])
        told = [(self._within(step, pack, own), paid) for own, paid in found]
        return [own for own in told if own[0] is not None]

    def _ahead_of_call(self, step, pack, space):
        found = []
        for high, rows in step.changes.items():
            rest = self.packs.rest(self.packs.plus(pack, high), space)
            if not rest >> step.bits:
                for low, price in rows.items():
                    found.append((self._within(step, self.packs.plus(rest, low), space), price))
        return found
