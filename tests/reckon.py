"""A plain reckoning of the tests' own: everything is played, listed and tried out."""

import itertools
import random


def rows_of(prime, length):
    return list(itertools.product(range(prime), repeat=length))


# Random programs.

def random_machine(rng, many_buses=True):
    prime = rng.choice((2, 2, 2, 3, 5))
    most = {2: 5, 3: 3, 5: 2}[prime]
    slots = rng.randint(2, most)
    buses = rng.randint(0, most - slots) if many_buses else 0
    lying = [rng.choice([None, *range(buses)]) for _ in range(slots)]
    for bus in range(min(buses, slots)):
        lying[bus] = bus
    rng.shuffle(lying)
    words = sorted(rng.sample(("pass", "put", "read", "turn"), rng.randint(1, 4)))
    return prime, tuple(lying), tuple((word, rng.randint(1, 3)) for word in words)


def random_dealt(rng, slots):
    order = list(range(slots))
    rng.shuffle(order)
    if slots >= 4 and rng.random() < 0.5:
        return tuple(sorted(order[:2])), tuple(sorted(order[2:4 + (slots > 4 and rng.random() < 0.5)]))
    return (tuple(sorted(order[:rng.randint(2, min(3, slots))])),)


def random_way(rng, machine, blocks, size, depth, words=("set", "set", "set", "draw", "call", "one", "many")):
    prime, slots = machine[0], len(machine[1])
    way = []
    for _ in range(rng.randint(0, size)):
        word = rng.choice(words)
        if word in ("one", "many") and not depth or word == "call" and not blocks:
            word = "draw"
        if word == "set":
            picked = sorted(rng.sample(range(slots), rng.randint(0, min(3, slots))))
            way.append(("set", rng.randrange(slots), tuple((slot, rng.randint(1, prime - 1)) for slot in picked)))
        elif word == "draw":
            way.append(("draw", rng.randrange(slots)))
        elif word == "call":
            kept = tuple(sorted(rng.sample(range(slots), rng.randint(0, min(2, slots)))))
            way.append(("call", rng.choice(blocks), kept))
        elif word == "one":
            way.append(("one", tuple(random_way(rng, machine, blocks, 2, depth - 1, words)
                                     for _ in range(rng.randint(2, 3)))))
        else:
            way.append(("many", random_way(rng, machine, blocks, 2, depth - 1, words)))
    return tuple(way)


def random_program(rng, size=4, depth=2, rings=True, words=("set", "set", "set", "draw", "call", "one", "many")):
    """A PROGRAM, clean or not."""
    machine = random_machine(rng)
    many = rng.randint(1, 3)
    blocks = []
    for number in range(many):
        callees = list(range(many)) if rings else list(range(number + 1, many))
        blocks.append(random_way(rng, machine, callees, size, depth, words))
    return machine, random_dealt(rng, len(machine[1])), tuple(blocks)


def clean_program(rng, **more):
    from anydlooks.programs import is_clean
    while True:
        program = random_program(rng, **more)
        if is_clean(program):
            return program


def some_runs(program, lines=5, numbers=5, most=12):
    return [run for run, own in way_runs(program[2], program[2][0], lines, numbers, 4)][:most]


# RUNS, all of them up to bounds.

def way_runs(blocks, way, lines, numbers, times):
    """The list of pairs (run, its lines) of the way with at most so many lines and numbers."""
    if not way:
        return [((), 0)]
    found = []
    for run, own in item_runs(blocks, way[0], lines, numbers, times):
        for rest, more in way_runs(blocks, way[1:], lines - own, numbers - len(run), times):
            found.append((run + rest, own + more))
    return found


def item_runs(blocks, item, lines, numbers, times):
    if item[0] in ("set", "draw"):
        return [((), 1)] if lines >= 1 else []
    if item[0] == "call":
        if lines < len(item[2]):
            return []
        return [(run, own + len(item[2])) for run, own in
                way_runs(blocks, blocks[item[1]], lines - len(item[2]), numbers, times)]
    if numbers < 1:
        return []
    if item[0] == "one":
        return [((number,) + run, own) for number, way in enumerate(item[1])
                for run, own in way_runs(blocks, way, lines, numbers - 1, times)]
    found = []
    for number in range(times + 1):
        for run, own in way_runs(blocks, item[1] * number, lines, numbers - 1, times):
            found.append(((number,) + run, own))
    return found


# Playing a RUN with numbers.

class Play:
    """A program played with values for its sources, parts first; draws beyond them are 0."""

    def __init__(self, program, run, values=()):
        (self.prime, self.lying, _), dealt, self.blocks = program
        self.run, self.values = list(run), list(values)
        self.slots = [0] * len(self.lying)
        self.buses = [0] * len({bus for bus in self.lying if bus is not None})
        self.lines, self.paths, self.ahead, self.wrote, self.choices, self.draws = [], [], [], [], [], 0
        for own in dealt:
            for slot in own:
                self.slots[slot] = self.values.pop(0) if self.values else 0
        self.way((0,), self.blocks[0])
        assert not self.run
        self.ahead.append((tuple(self.slots), tuple(self.buses)))

    def write(self, line, path, value):
        self.lines.append(line)
        self.paths.append(path)
        self.ahead.append((tuple(self.slots), tuple(self.buses)))
        self.wrote.append(value)
        self.slots[line[1]] = value
        if self.lying[line[1]] is not None:
            self.buses[self.lying[line[1]]] = value

    def way(self, prefix, way):
        for place, item in enumerate(way):
            self.item(prefix + (place,), item)

    def item(self, path, item):
        if item[0] == "set":
            self.write(item, path, sum(self.slots[slot] * factor for slot, factor in item[2]) % self.prime)
        elif item[0] == "draw":
            self.draws += 1
            self.write(("draw", item[1], ()), path, self.values.pop(0) if self.values else 0)
        elif item[0] == "call":
            start, held = len(self.lines), list(self.slots)
            self.way((item[1],), self.blocks[item[1]])
            for slot in item[2]:
                self.write(("back", slot, start), path, held[slot])
        else:
            number = self.run.pop(0)
            self.choices.append((path, number, len(self.lines)))
            if item[0] == "one":
                self.way(path + (number,), item[1][number])
            else:
                for _ in range(number):
                    self.way(path, item[1])

    def shown(self, mark):
        number, word = mark[0], mark[1]
        line, (slots, buses) = self.lines[number], self.ahead[number]
        if word == "put":
            return self.wrote[number]
        if word == "turn":
            return (self.wrote[number] - slots[line[1]]) % self.prime
        if word == "pass":
            return (self.wrote[number] - buses[self.lying[line[1]]]) % self.prime
        return sum(own * slots[slot] for own, (slot, _) in zip(mark[2], line[2])) % self.prime


def source_count(program, run):
    return sum(len(own) for own in program[1]) + Play(program, run).draws


def unit(length, place):
    return tuple(int(own == place) for own in range(length))


def spread(program, run, reading):
    """What reading tells of a Play, as a sum of the sources."""
    length = source_count(program, run)
    return tuple(reading(Play(program, run, unit(length, place))) for place in range(length))


def secrets_by(program, values):
    secrets, rest = [], list(values)
    for own in program[1]:
        secrets.append(sum(rest[:len(own)]) % program[0][0])
        rest = rest[len(own):]
    return tuple(secrets)


def all_marks(program, lines, number):
    (prime, lying, sorts), line = program[0], lines[number]
    found = []
    for word, _ in sorts:
        if word == "read":
            if line[0] == "set":
                found += [(number, word, row) for row in rows_of(prime, len(line[2])) if any(row)]
        elif word != "pass" or lying[line[1]] is not None:
            found.append((number, word))
    return sorted(found)


def line_terms(program, lines, number):
    """All ways to have terms at one LINE."""
    words = {}
    for mark in all_marks(program, lines, number):
        words.setdefault(mark[1], []).append(mark)
    choices = [[()] + [((mark, own),) for mark in words[word] for own in range(1, program[0][0])]
               for word in sorted(words)]
    return [sum(own, ()) for own in itertools.product(*choices)]


def all_terms(program, lines):
    """All sets of terms whose marks are LOOKS of these LINES."""
    return [sum(own, ()) for own in itertools.product(*[line_terms(program, lines, k) for k in range(len(lines))])]


def count_terms(program, lines):
    many = 1
    for number in range(len(lines)):
        many *= len(line_terms(program, lines, number))
    return many


def price(program, terms):
    return sum(dict(program[0][2])[mark[1]] for mark, _ in terms)


def form_of_spread(program, row):
    """The FORM if the spread is that of one; None otherwise."""
    form, rest = [], list(row)
    for own in program[1]:
        part, rest = rest[:len(own)], rest[len(own):]
        if len(set(part)) > 1:
            return None
        form.append(part[0])
    return None if any(rest) or not any(form) else tuple(form)


def cheapest(program, terms):
    return min(terms, key=lambda own: (price(program, own), len(own), own), default=None)


# What terms ask, by playing the LINES from somewhere on.

def asks(machine, lines, start, terms, state, draws, behind=None):
    """The sum of terms at LINES from start, and of behind at the end, if state lies there at start."""
    prime, lying, _ = machine
    slots, buses = list(state[:len(lying)]), list(state[len(lying):])
    residues, states, total, draws = dict(terms), {}, 0, list(draws)
    for number in range(start, len(lines)):
        states[number] = list(slots)
        line = lines[number]
        if line[0] == "set":
            value = sum(slots[slot] * factor for slot, factor in line[2]) % prime
        elif line[0] == "draw":
            value = draws.pop(0) if draws else 0
        else:
            value = states[line[2]][line[1]] if line[2] >= start else 0
        for mark, residue in residues.items():
            if mark[0] == number:
                if mark[1] == "put":
                    seen = value
                elif mark[1] == "turn":
                    seen = value - slots[line[1]]
                elif mark[1] == "pass":
                    seen = value - buses[lying[line[1]]]
                else:
                    seen = sum(own * slots[slot] for own, (slot, _) in zip(mark[2], line[2]))
                total += residue * seen
        slots[line[1]] = value
        if lying[line[1]] is not None:
            buses[lying[line[1]]] = value
    if behind is not None:
        total += sum(own * more for own, more in zip(behind, slots + buses))
    return total % prime


def length_of(machine):
    return len(machine[1]) + len({bus for bus in machine[1] if bus is not None})


def asked_at(machine, lines, start, terms, behind=None):
    length = length_of(machine)
    return tuple(asks(machine, lines, start, terms, unit(length, place), (), behind) for place in range(length))


def draws_by(machine, lines, terms, behind=None):
    many = sum(line[0] == "draw" for line in lines)
    quiet = (0,) * length_of(machine)
    return [asks(machine, lines, 0, terms, quiet, unit(many, place), behind) for place in range(many)]


def walk_by(machine, lines, terms):
    return tuple(asked_at(machine, lines, start, terms) for start in range(len(lines) + 1))


def table_by(program, runs_lines, most):
    """The TABLE to most of a piece whose runs have these LINES."""
    machine, found = program[0], {}
    for lines in runs_lines:
        for terms in all_terms(program, lines):
            own = price(program, terms)
            if own > most:
                continue
            for behind in rows_of(machine[0], length_of(machine)):
                if any(draws_by(machine, lines, terms, behind)):
                    continue
                key = (asked_at(machine, lines, 0, terms, behind), behind)
                found[key] = min(own, found.get(key, own))
    return tuple(sorted((ahead, behind, own) for (ahead, behind), own in found.items()))


# Things of every kind.

def is_number(thing):
    return type(thing) is int


def things_like(thing):
    """Things that are made of thing by exchanging one value somewhere in it."""
    odd = [None, True, False, "", "put", 0, 1, 2, -1, 10 ** 30, -10 ** 30, (), [], (0,), ((),), ("put",), nest(30)]
    found = list(odd)
    if isinstance(thing, tuple):
        found.append(list(thing))
        found.append(thing + thing[-1:])
        found.append(thing[:-1])
        found.append(thing[::-1])
        found.append(thing + (0,))
        for place, own in enumerate(thing):
            found += [thing[:place] + (more,) + thing[place + 1:] for more in things_like(own)]
    elif is_number(thing):
        found += [thing + 1, thing - 1, bool(thing)]
    return found


def nest(depth):
    thing = ()
    for _ in range(depth - 1):
        thing = (thing,)
    return thing


def rng_of(seed):
    return random.Random(seed)
