"""A plain reckoning of the tests' own over all RUNS: tables gone over naively, RUNS and LOOKS tried out."""

import itertools

from reckon import (
    Play, all_marks, all_terms, asked_at, clean_program, count_terms, draws_by, form_of_spread, length_of, price, rows_of,
    spread, table_by, way_runs,
)

FINITE = ("set", "set", "set", "draw", "call", "one")


def put_together(table, entries):
    """Adds entries (ahead, behind, price) to a dict, least prices first."""
    for ahead, behind, own in entries:
        table[ahead, behind] = min(own, table.get((ahead, behind), own))
    return table


def as_table(table):
    return tuple(sorted((ahead, behind, own) for (ahead, behind), own in table.items()))


def join_by(one, other, most):
    """Of dicts: a piece with one, then one with other."""
    by_behind = {}
    for (ahead, behind), own in one.items():
        by_behind.setdefault(behind, []).append((ahead, own))
    return put_together({}, [(ahead, behind, own + more) for (near, behind), more in other.items()
                             for ahead, own in by_behind.get(near, []) if most is None or own + more <= most])


def back_played(machine, kept, terms, behind, one, held):
    """What terms at put backs, and behind, show if register one alone lies there, or was kept by held alone."""
    prime, lying, _ = machine
    lies = [int(k == one) for k in range(length_of(machine))]
    keeps = [int(k == held) for k in range(len(lying))]
    total = 0
    for number, slot in enumerate(kept):
        value, bus_place = keeps[slot], None
        if lying[slot] is not None:
            bus_place = len(lying) + lying[slot]
        for (own, word), residue in terms:
            if own == number:
                less = {"put": 0, "turn": lies[slot], "pass": lies[bus_place] if bus_place is not None else 0}[word]
                total += residue * (value - less)
        lies[slot] = value
        if bus_place is not None:
            lies[bus_place] = value
    return (total + sum(own * more for own, more in zip(behind, lies))) % prime


def kept_by(machine, kept, most):
    """The quadruples of put backs alone, by playing them."""
    length = length_of(machine)
    lines = [("back", slot, 0) for slot in kept]
    program, found = (machine, (), ()), {}
    for terms in all_terms(program, lines):
        own = price(program, terms)
        if own <= most:
            for behind in rows_of(machine[0], length):
                ahead = tuple(back_played(machine, kept, terms, behind, k, None) for k in range(length))
                added = tuple(back_played(machine, kept, terms, behind, None, k) for k in range(length))
                found[added, ahead, behind] = min(own, found.get((added, ahead, behind), own))
    return tuple(sorted((*key, own) for key, own in found.items()))


class Naive:
    """Tables of blocks gone over again and again; a call and a time round on their own, if by turns."""

    def __init__(self, program, most, by_turns=False, free=False):
        self.program, self.most, self.by_turns, self.free = program, most, by_turns, free
        self.machine = program[0]
        self.known = {}

    def line(self, line):
        if line not in self.known:
            table = table_by((self.machine, (), ()), [[line]], 10 ** 9 if self.free else self.most)
            self.known[line] = put_together({}, [(a, b, 0 if self.free else own) for a, b, own in table])
        return self.known[line]

    def still(self):
        return {(own, own): 0 for own in rows_of(self.machine[0], length_of(self.machine))}

    def backs(self, kept):
        key = ("kept", kept)
        if key not in self.known:
            found = kept_by(self.machine, kept, 10 ** 9 if self.free else self.most)
            self.known[key] = [(*own[:3], 0 if self.free else own[3]) for own in found]
        return self.known[key]

    def call(self, kept, table):
        if not kept:
            return table
        prime, found = self.machine[0], []
        for added, near, behind, own in self.backs(kept):
            for (ahead, middle), more in table.items():
                if middle == near and own + more <= self.most:
                    found.append((tuple((a + b) % prime for a, b in zip(ahead, added)), behind, own + more))
        return put_together({}, found)

    def flat(self, table):
        return {key: 0 for key in table} if self.by_turns else table

    def item(self, item, tables):
        if item[0] == "one":
            return put_together({}, [(*key, own) for way in item[1] for key, own in self.way(way, tables).items()])
        if item[0] == "many":
            once, found, last = self.flat(self.way(item[1], tables)), self.still(), None
            while found != last:
                last = found
                found = put_together(dict(self.still()), [(*key, own) for key, own in join_by(once, last, self.most).items()])
            return found
        if item[0] == "call":
            return self.call(item[2], self.flat(tables[item[1]]))
        return self.line(item if item[0] == "set" else ("draw", item[1], ()))

    def way(self, way, tables):
        found = self.still()
        for item in way:
            found = join_by(found, self.item(item, tables), self.most)
        return found

    def made(self, tables):
        return [self.way(way, tables) for way in self.program[2]]

    def stages(self):
        """Tables without entries, then gone over once, twice .. until nothing is new."""
        found = [[{} for _ in self.program[2]]]
        while True:
            more = self.made(found[-1])
            if more == found[-1]:
                return found
            found.append(more)

    def least(self):
        return self.stages()[-1]

    def told(self):
        """The least price by FORMS, from block 0's table."""
        found, quiet = {}, (0,) * length_of(self.machine)
        for (ahead, behind), own in self.least()[0].items():
            form = bad_form(self.program, ahead)
            if form and behind == quiet:
                found[form] = min(own, found.get(form, own))
        return found


def bad_form(program, asking):
    form = []
    for parts in program[1]:
        if len({asking[slot] for slot in parts}) > 1:
            return None
        form.append(asking[parts[0]])
    return tuple(form) if any(form) else None


# Programs with few RUNS, all of which are gone through.

def finite_programs(rng, many, terms=400, size=3, words=FINITE, depth=2, runs=12):
    """Clean programs with all their RUNS, of few lines and numbers; of each RUN at most so many terms."""
    found = 0
    while found < many:
        program = clean_program(rng, rings=False, words=words, size=size, depth=depth)
        every = [run for run, _ in way_runs(program[2], program[2][0], 40, 40, 0)]
        if len(every) > runs:
            continue
        lines = {run: Play(program, run).lines for run in every}
        if max(len(own) for own in lines.values()) > 8 or sum(count_terms(program, own) for own in lines.values()) > terms:
            continue
        found += 1
        yield program, lines


def tellings(program, lines):
    """All (run, terms, form) that tell, over these RUNS, by playing."""
    found = []
    for run, own in lines.items():
        for terms in all_terms(program, own):
            if terms:
                row = spread(program, run, lambda play, terms=terms: sum(
                    residue * play.shown(mark) for mark, residue in terms) % program[0][0])
                form = form_of_spread(program, row)
                if form:
                    found.append((run, terms, form))
    return found


def lesser(program, run):
    """What of RUNS the least one is least by."""
    return len(Play(program, run).lines), len(run), run


def all_looks(program, lines, most):
    """All LOOKS of price most at most."""
    prices, found = dict(program[0][2]), [((), 0)]
    for number in range(len(lines)):
        words = {}
        for mark in all_marks(program, lines, number):
            words.setdefault(mark[1], [None]).append(mark)
        choices = list(itertools.product(*[words[word] for word in sorted(words)]))
        found = [(looks + tuple(own for own in choice if own), cost + sum(prices[own[1]] for own in choice if own))
                 for looks, cost in found for choice in choices
                 if cost + sum(prices[own[1]] for own in choice if own) <= most]
    return found


def forms_by_looks(program, run, looks):
    """All FORMS that the looks tell: of all sums of what they show, by playing once for each source."""
    prime = program[0][0]
    rows = [spread(program, run, lambda play, mark=mark: play.shown(mark)) for mark in looks]
    found = set()
    for factors in rows_of(prime, len(looks)):
        row = tuple(sum(a * b for a, b in zip(factors, column)) % prime for column in zip(*rows)) if rows else ()
        form = form_of_spread(program, row) if rows else None
        if form:
            found.add(form)
    return found


# Turns, by playing.

class TurnPlay(Play):
    """A Play that tells the turn of each LINE, the prices of a turn's marks being added up apart."""

    def __init__(self, program, run, values=()):
        self.turns, self.open, self.begun = [], [0], 1
        super().__init__(program, run, values)

    def write(self, line, path, value):
        self.turns.append(self.open[-1])
        super().write(line, path, value)

    def begin(self):
        self.open.append(self.begun)
        self.begun += 1

    def item(self, path, item):
        if item[0] == "call":
            start, held = len(self.lines), list(self.slots)
            self.begin()
            self.way((item[1],), self.blocks[item[1]])
            self.open.pop()
            for slot in item[2]:
                self.write(("back", slot, start), path, held[slot])
        elif item[0] == "many":
            number = self.run.pop(0)
            self.choices.append((path, number, len(self.lines)))
            for _ in range(number):
                self.begin()
                self.way(path, item[1])
                self.open.pop()
        else:
            super().item(path, item)


def height_by(program, run, marks):
    turns, prices, sums = TurnPlay(program, run).turns, dict(program[0][2]), {}
    for mark in marks:
        sums[turns[mark[0]]] = sums.get(turns[mark[0]], 0) + prices[mark[1]]
    return max(sums.values(), default=0)


def asks_between(program, lines, ahead, behind, most):
    """Whether some terms of price most at most ask ahead over the LINES, behind being asked behind them."""
    return any(price(program, terms) <= most and asked_at(program[0], lines, 0, terms, behind) == ahead
               and not any(draws_by(program[0], lines, terms, behind)) for terms in all_terms(program, lines))

