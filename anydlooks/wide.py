"""Least prices of programs with too many ASKINGS to list them: block 0 has LINES and calls alone.

What is asked is told by a spread: by what it is of the sources, which are the parts, what draws
of block 0 write, and, for each of its calls, what lies behind it in the registers and on the
buses that the block called can touch. Marks add what they show; a call turns what is asked of
its own sources into what is asked ahead of it, as the least table of the block called tells.
"""

from anydlooks.blocks import BY_PRICE, Pieces
from anydlooks.plain import all_rows, as_set, power
from anydlooks.residues import across, basis, factors_for, inverse, product, relations, row_by
from anydlooks.rule import asking_length
from anydlooks.touches import block_touches
from anydlooks.ways import calls_in, changed_way, led_to

_MOST_LISTED = 128


def is_wide(program):
    """Whether the ASKINGS are too many, and block 0 is called by none and has LINES and calls that keep nothing."""
    if power(program[0][0], asking_length(program[0])) <= _MOST_LISTED:
        return False
    if any([0 in calls_in(way) for way in program[2]]):
        return False
    return all([item[0] in ("set", "draw") or item[0] == "call" and not item[2] for item in program[2][0]])


class Called:
    """What a block called makes: of what is asked at its coordinates, registers first, then buses."""

    def __init__(self, program, view, most, number):
        prime, buses, sorts = program[0]
        written, read = block_touches(program[2])[number]
        slots = as_set(written + read)
        used = as_set([buses[slot] for slot in written if buses[slot] is not None])
        lying = [used.index(buses[slot]) if slot in written and buses[slot] in used else None for slot in slots]
        self.coordinates = slots + tuple([len(buses) + bus for bus in used])
        calls = [(block, callee) for block, way in enumerate(program[2]) for callee in calls_in(way)]
        needed = (number, *led_to(calls, (number,)))

        def told_anew(item):
            if item[0] == "set":
                return (("set", slots.index(item[1]), tuple([(slots.index(own), more) for own, more in item[2]])),)
            if item[0] == "draw":
                return (("draw", slots.index(item[1])),)
            return (("call", item[1], tuple([slots.index(own) for own in item[2]])),)

        blocks = [changed_way(way, told_anew) if block in needed else () for block, way in enumerate(program[2])]
        own_view = tuple([view[slot] for slot in slots])
        pieces = Pieces((prime, tuple(lying), sorts), own_view, most, BY_PRICE, False)
        self.table = pieces.places.table(pieces.least(blocks)[number])


class Step:
    """One item of block 0: what lies there ahead of it, and what it adds to what is asked behind it."""

    def __init__(self, prime, held, checks):
        self.prime = prime
        self.held = held
        # What is asked ahead has product 0 with each of checks, if it can still come to tell.
        self.checks = checks
        self.changes = []
        self.reads = ()
        self.read_price = None
        self.own_sources = ()
        self.called = {}
        self.known = {}

    def syndrome(self, row):
        """The products of the row with all checks, so that 0s alone say that it is good."""
        return tuple([product(self.prime, row, own) for own in self.checks])

    def bare(self, row):
        """The row without what is asked of the sources of this call."""
        return tuple([0 if place in self.own_sources else own for place, own in enumerate(row)])

    def good_changes(self, syndrome):
        """The list of the pairs (row, price) that can be added to what has this syndrome."""
        if syndrome not in self.known:
            found = []
            for row, price, with_read in self.changes:
                rest = tuple([(own + more) % self.prime for own, more in zip(syndrome, self.syndrome(row))])
                if not any(rest):
                    found.append((row, price))
                if with_read:
                    found.extend(self._with_reads(row, price + self.read_price, rest))
            self.known[syndrome] = found
        return self.known[syndrome]

    def _with_reads(self, row, price, rest):
        """Likewise with a read, row having been added already."""
        if not self.checks:
            base, space = (0,) * len(row), self.reads
        else:
            told = [self.syndrome(own) for own in self.reads]
            factors = factors_for(self.prime, tuple([-own % self.prime for own in rest]), told)
            if factors is None:
                return []
            base = row_by(self.prime, self.reads, factors, len(row))
            space = [row_by(self.prime, self.reads, own, len(row)) for own in relations(self.prime, told)]
        found = []
        for factors in all_rows(self.prime, len(space)):
            own = row_by(self.prime, space, factors, len(row))
            found.append((row_by(self.prime, (row, base, own), (1, 1, 1), len(row)), price))
        return found


def _unit(length, place):
    return tuple([int(own == place) for own in range(length)])


def _normal(prime, row):
    """The multiple of the row in which what is first not 0 is 1."""
    for residue in row:
        if residue:
            unit = inverse(prime, residue)
            return row if unit == 1 else tuple([own * unit % prime for own in row])
    return row


def _put(found, key, price):
    if price < found.get(key, price + 1):
        found[key] = price


class Wide:
    """The search of such a program for its least price, with marks that a view lets."""

    def __init__(self, program, view, most):
        self.program = program
        self.prime = program[0][0]
        self.view = view
        self.most = most
        self.blocks = {}
        self.way = program[2][0]
        parts = [slot for own in program[1] for slot in own]
        self.length = len(parts) + sum([self._sources_of(item) for item in self.way])
        self.sources = len(parts)
        self.held = [(0,) * self.length for _ in range(asking_length(program[0]))]
        for place, slot in enumerate(parts):
            self.held[slot] = _unit(self.length, place)
        # The space of what can still come to tell, ahead of each step.
        self.space = basis(self.prime, [self._sum(own) for own in program[1]])
        self.greatest = 0
        self.steps = [self._step(item) for item in self.way]

    def _called(self, number):
        if number not in self.blocks:
            self.blocks[number] = Called(self.program, self.view, self.most, number)
        return self.blocks[number]

    def _sources_of(self, item):
        if item[0] == "call":
            return len(self._called(item[1]).coordinates)
        return int(item[0] == "draw")

    def _sum(self, slots):
        rows = [self.held[slot] for slot in slots]
        return row_by(self.prime, rows, [1] * len(rows), self.length)

    def _new_source(self):
        self.sources += 1
        return _unit(self.length, self.sources - 1)

    def _step(self, item):
        """The Step of the item; goes on behind it."""
        step = Step(self.prime, tuple(self.held), across(self.prime, self.space, self.length))
        if item[0] == "call":
            self._call(step, self._called(item[1]))
        else:
            self._line(step, item)
        return step

    def _line(self, step, item):
        slot, rows = item[1], {}
        bus = self.program[0][1][slot]
        if item[0] == "draw":
            written = self._new_source()
        else:
            own = [step.held[more] for more, _ in item[2]]
            written = row_by(self.prime, own, [factor for _, factor in item[2]], self.length)
            step.reads = basis(self.prime, own)
        rows["put"] = written
        rows["turn"] = row_by(self.prime, (written, self.held[slot]), (1, self.prime - 1), self.length)
        if bus is not None:
            place = len(self.program[0][1]) + bus
            rows["pass"] = row_by(self.prime, (written, self.held[place]), (1, self.prime - 1), self.length)
            self.held[place] = written
        self.held[slot] = written
        self._add_changes(step, rows, slot)

    def _add_changes(self, step, rows, slot):
        """Puts the marks of a LINE into its Step."""
        quiet, prices = (0,) * self.length, {word: price for word, price in self.view[slot] if word in rows}
        plain, best = {quiet: 0}, {quiet: 0}
        for word, price in prices.items():
            best = self._with_word(best, rows[word], price)
            plain = plain if word == "put" else self._with_word(plain, rows[word], price)
        more = [price for word, price in self.view[slot] if word == "read"]
        if more and step.reads:
            step.read_price = more[0]
        reading = step.read_price is not None
        step.changes = [(row, price, False) for row, price in best.items() if not reading or plain.get(row) != price]
        if reading:
            step.changes.extend([(row, price, True) for row, price in plain.items()])
        self.greatest += sum([price for _, price in self.view[slot]])
        shown = tuple([rows[word] for word in prices]) + (step.reads if reading else ())
        self.space = basis(self.prime, self.space + shown)

    def _with_word(self, best, shown, price):
        """For each row the least price, with or without one more mark that shows this."""
        found = dict(best)
        for row, own in best.items():
            for factor in range(1, self.prime):
                _put(found, row_by(self.prime, (row, shown), (1, factor), self.length), own + price)
        return found

    def _call(self, step, called):
        places = called.coordinates
        step.own_sources = tuple(range(self.sources, self.sources + len(places)))
        fresh = [self._new_source() for _ in places]
        own = [step.held[place] for place in places]
        for near, far, price in called.table:
            row = row_by(self.prime, own, near, self.length)
            _put(step.called.setdefault(far, {}), row, price)
        most, wider = 0, []
        for far, rows in step.called.items():
            asked = row_by(self.prime, fresh, far, self.length)
            for row, price in rows.items():
                most = max(most, price)
                wider.append(row_by(self.prime, (asked, row), (1, self.prime - 1), self.length))
        self.greatest += most
        self._widen(wider)
        for place, row in zip(places, fresh):
            self.held[place] = row

    def _widen(self, rows):
        """Takes the rows into the space."""
        checks = across(self.prime, self.space, self.length)
        for row in rows:
            if any([product(self.prime, row, own) for own in checks]):
                self.space = basis(self.prime, (*self.space, row))
                checks = across(self.prime, self.space, self.length)

    def price(self):
        """The least price of a TELLING; None if there is none, of price most at most, if most is not None."""
        limit = self.greatest if self.most is None else min(self.most, self.greatest)
        if not self._can_tell():
            return None
        bound = min(1, limit)
        while True:
            found = self._to(bound)
            if found is not None or bound == limit:
                return found
            bound = min(2 * bound, limit)

    def _to(self, bound):
        """The least price, if it is at most bound; None otherwise."""
        states = {(0,) * self.length: 0}
        for step in reversed(self.steps):
            found = {}
            for row, price in states.items():
                for ahead, more in self._ahead(step, row):
                    if price + more <= bound:
                        _put(found, _normal(self.prime, ahead), price + more)
            states = found
        return min([price for row, price in states.items() if any(row)], default=None)

    def _ahead(self, step, row):
        """The list of the pairs (what is asked ahead of the step, price)."""
        if not step.called:
            changes = step.good_changes(step.syndrome(row))
            return [(row_by(self.prime, (row, change), (1, 1), self.length), price) for change, price in changes]
        far = tuple([row[place] for place in step.own_sources])
        bare, found = step.bare(row), []
        for near, price in step.called.get(far, {}).items():
            ahead = row_by(self.prime, (bare, near), (1, 1), self.length)
            if not any(step.syndrome(ahead)):
                found.append((ahead, price))
        return found

    def _can_tell(self):
        """Whether anything is told at whatever price: by cosets (row, space) of what can be asked."""
        cosets = [((0,) * self.length, ())]
        for step in reversed(self.steps):
            found = []
            for row, space in cosets:
                if step.called:
                    found.extend(self._ahead_of_call(step, row, space))
                else:
                    shown = tuple([own for own, _, _ in step.changes])
                    wider = basis(self.prime, space + shown + (step.reads if step.read_price is not None else ()))
                    found.append(self._within(row, wider, step.checks))
            cosets = as_set([own for own in found if own is not None])
        return any([any(row) or space for row, space in cosets])

    def _within(self, row, space, checks):
        """The coset of what has product 0 with each of checks; None if there is none."""
        return self._where(row, space, checks, (0,) * len(checks))

    def _where(self, row, space, checks, goals):
        """The coset of what has these products with checks; None if there is none."""
        if not checks:
            return row, space
        told = [tuple([product(self.prime, own, more) for more in checks]) for own in space]
        rest = tuple([(goal - product(self.prime, row, more)) % self.prime for goal, more in zip(goals, checks)])
        factors = factors_for(self.prime, rest, told)
        if factors is None:
            return None
        inner = basis(self.prime, [row_by(self.prime, space, own, self.length) for own in relations(self.prime, told)])
        own = row_by(self.prime, space, factors, self.length)
        return row_by(self.prime, (row, own), (1, 1), self.length), inner

    def _ahead_of_call(self, step, row, space):
        found, units = [], [_unit(self.length, place) for place in step.own_sources]
        for far, rows in step.called.items():
            coset = self._where(row, space, units, far)
            if coset is not None:
                for own in list(rows):
                    ahead = row_by(self.prime, (step.bare(coset[0]), own), (1, 1), self.length)
                    found.append(self._within(ahead, coset[1], step.checks))
        return found
