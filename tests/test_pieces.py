"""[10]: tables of pieces, beside all their RUNS forward."""

import unittest

import predicates
from anydlooks.askings import nobody
from anydlooks.pieces import (
    asked_ahead, call_table, is_table, joined, kept_table, least_of, line_table, many_table, price_in, still_table,
    times_table, way_table,
)
from reckon import (
    all_terms, asked_at, clean_program, count_terms, draws_by, item_runs, length_of, nest, price, random_machine,
    random_way, rng_of, rows_of, table_by, things_like, way_runs,
)
from samples import bus, deep, plain, small, thrice


def lines_of_way(program, way, run):
    """The LINES of a run of the way, and the numbers left over."""
    lines, rest = [], list(run)

    def go(way):
        for item in way:
            if item[0] == "set":
                lines.append(item)
            elif item[0] == "draw":
                lines.append(("draw", item[1], ()))
            elif item[0] == "call":
                start = len(lines)
                go(program[2][item[1]])
                lines.extend(("back", slot, start) for slot in item[2])
            else:
                number = rest.pop(0)
                if item[0] == "one":
                    go(item[1][number])
                else:
                    for _ in range(number):
                        go(item[1])
    go(way)
    return lines, rest


def all_lines(program, way, lines=3, numbers=4, times=3):
    return [lines_of_way(program, way, run)[0] for run, _ in way_runs(program[2], way, lines, numbers, times)]


def join_by(one, other, most):
    found = {}
    for ahead, middle, own in one:
        for near, behind, more in other:
            if near == middle and own + more <= most:
                key = (ahead, behind)
                found[key] = min(own + more, found.get(key, own + more))
    return tuple(sorted((*key, own) for key, own in found.items()))


def least_by(tables):
    found = {}
    for table in tables:
        for ahead, behind, own in table:
            found[ahead, behind] = min(own, found.get((ahead, behind), own))
    return tuple(sorted((*key, own) for key, own in found.items()))


def random_table(rng, machine, most, many):
    askings = rows_of(machine[0], length_of(machine))
    found = {}
    for _ in range(many):
        found[rng.choice(askings), rng.choice(askings)] = rng.randint(0, most)
    return tuple(sorted((*key, own) for key, own in found.items()))


def machines(seed, many):
    rng = rng_of(seed)
    for _ in range(many):
        yield rng, random_machine(rng)


def up_to(table, most):
    return tuple(own for own in table if own[2] <= most)


class Lines(unittest.TestCase):

    def test_lines(self):
        for rng, machine in machines(1, 120):
            way = ()
            while not way:
                way = random_way(rng, machine, [], 1, 0, ("set", "set", "draw"))
            item, most = way[0], rng.randint(0, 6)
            line = item if item[0] == "set" else ("draw", item[1], ())
            wanted = table_by((machine, (), ()), [[line]], most)
            self.assertEqual(line_table(machine, item, most), wanted, (machine, item, most))
            self.assertTrue(predicates.table(machine, length_of(machine), most, wanted))

    def test_still(self):
        for rng, machine in machines(2, 40):
            askings = rows_of(machine[0], length_of(machine))
            self.assertEqual(still_table(machine), tuple((own, own, 0) for own in askings))

    def test_asked(self):
        for rng, machine in machines(3, 60):
            table = random_table(rng, machine, 6, rng.randint(0, 30))
            askings = rows_of(machine[0], length_of(machine))
            for behind in askings:
                self.assertEqual(asked_ahead(table, behind), sorted((own[0], own[2]) for own in table if own[1] == behind))
                ahead = rng.choice(askings)
                prices = [own[2] for own in table if own[:2] == (ahead, behind)]
                self.assertEqual(price_in(table, ahead, behind), prices[0] if prices else None)
                self.assertEqual(price_in([list(own) for own in table], list(ahead), list(behind)),
                                 prices[0] if prices else None)


class Joined(unittest.TestCase):

    def test_joined(self):
        for rng, machine in machines(4, 80):
            most = rng.randint(0, 6)
            one, other = [random_table(rng, machine, most, rng.choice((0, 3, 40, 200))) for _ in range(2)]
            self.assertEqual(joined(one, other, most), join_by(one, other, most))
            self.assertEqual(joined(one, still_table(machine), most), one)
            self.assertEqual(joined(still_table(machine), one, most), one)
            self.assertEqual(joined(one, (), most), ())
            self.assertEqual(joined((), one, most), ())
            self.assertEqual(least_of((one, other)), least_by((one, other)))
            self.assertEqual(least_of((other, one, other)), least_by((one, other)))
            self.assertEqual(least_of((one,)), one)
            self.assertEqual(least_of(((),)), ())

    def test_many(self):
        for rng, machine in machines(5, 60):
            most = rng.randint(0, 6)
            table = random_table(rng, machine, most, rng.choice((0, 3, 20, 60)))
            wanted = still_table(machine)
            for _ in range(40):
                wanted = least_by((wanted, join_by(table, wanted, most)))
            self.assertEqual(many_table(machine, table, most), wanted)
            self.assertEqual(joined(wanted, wanted, most), wanted)

    def test_times(self):
        for rng, machine in machines(6, 40):
            most = rng.randint(0, 6)
            table = random_table(rng, machine, most, rng.choice((3, 20, 60)))
            wanted = still_table(machine)
            for many in range(9):
                self.assertEqual(times_table(machine, table, many, most), wanted)
                wanted = join_by(table, wanted, most)
            for many in (10 ** 18, 2 ** 59 + 1, 999_999_999_999):
                own = times_table(machine, table, many, most)
                self.assertEqual(own, joined(times_table(machine, table, many - 7, most), times_table(machine, table, 7, most), most))
                self.assertEqual(own, joined(table, times_table(machine, table, many - 1, most), most))

    def test_multiples(self):
        for rng, machine in machines(7, 60):
            prime = machine[0]
            way = random_way(rng, machine, [], 3, 1, ("set", "set", "draw", "one", "many"))
            program = (machine, ((0, 1),), (way,))
            table = way_table(program, way, (still_table(machine),), 4)
            known = {own[:2]: own[2] for own in table}
            for (ahead, behind), own in known.items():
                for times in range(1, prime):
                    more = tuple(tuple(times * residue % prime for residue in asking) for asking in (ahead, behind))
                    self.assertEqual(known[more], own)


class Calls(unittest.TestCase):

    def kept_by(self, machine, kept, most):
        """Put backs alone, played with what lay there when the call began beside what lies there."""
        length = length_of(machine)
        lines = [("back", slot, 0) for slot in kept]
        program, found = (machine, (), ()), {}
        for terms in all_terms(program, lines):
            own = price(program, terms)
            if own <= most:
                for behind in rows_of(machine[0], length):
                    ahead = tuple(self.back(machine, kept, terms, behind, k, None) for k in range(length))
                    added = tuple(self.back(machine, kept, terms, behind, None, k) for k in range(length))
                    found[added, ahead, behind] = min(own, found.get((added, ahead, behind), own))
        return tuple(sorted((*key, own) for key, own in found.items()))

    def back(self, machine, kept, terms, behind, one, held):
        prime, lying, _ = machine
        lies = [int(k == one) for k in range(length_of(machine))]
        keeps = [int(k == held) for k in range(len(lying))]
        total = 0
        for number, slot in enumerate(kept):
            value, bus_place = keeps[slot], None
            if lying[slot] is not None:
                bus_place = len(lying) + lying[slot]
            for (own, word), residue in terms:
                if own == number:
                    less = {"put": 0, "turn": lies[slot], "pass": lies[bus_place] if bus_place is not None else 0}[word]
                    total += residue * (value - less)
            lies[slot] = value
            if bus_place is not None:
                lies[bus_place] = value
        return (total + sum(own * more for own, more in zip(behind, lies))) % prime

    def test_kept(self):
        for rng, machine in machines(8, 60):
            slots = len(machine[1])
            kept = tuple(sorted(rng.sample(range(slots), rng.randint(0, min(2, slots)))))
            most = rng.randint(0, 6)
            self.assertEqual(kept_table(machine, kept, most), self.kept_by(machine, kept, most))
        self.assertEqual(kept_table(small, (), 0), tuple((nobody(small), own, own, 0) for own in rows_of(2, 3)))

    def test_call(self):
        """By its quadruples."""
        for rng, machine in machines(9, 60):
            slots, prime = len(machine[1]), machine[0]
            kept = tuple(sorted(rng.sample(range(slots), rng.randint(0, slots))))
            most = rng.randint(0, 4)
            table = random_table(rng, machine, most, rng.choice((0, 5, 60)))
            found = {}
            for added, near, behind, own in kept_table(machine, kept, most):
                for ahead, middle, more in table:
                    if middle == near and own + more <= most:
                        key = (tuple((a + b) % prime for a, b in zip(ahead, added)), behind)
                        found[key] = min(own + more, found.get(key, own + more))
            wanted = tuple(sorted((*key, own) for key, own in found.items()))
            self.assertEqual(call_table(machine, kept, table, most), wanted)
            self.assertEqual(call_table(machine, (), table, most), table)

    def test_calls_forward(self):
        """Kept registers that the callee writes, and such as it does not."""
        for rng, machine in machines(10, 80):
            slots = len(machine[1])
            body = random_way(rng, machine, [], 2, 0, ("set", "set", "draw"))
            kept = tuple(sorted(rng.sample(range(slots), rng.randint(0, min(2, slots)))))
            lines = [own if own[0] == "set" else ("draw", own[1], ()) for own in body]
            lines += [("back", slot, 0) for slot in kept]
            program = (machine, ((0, 1),), ((("call", 1, kept),), body))
            if count_terms(program, lines) <= 300:
                most = rng.randint(0, 6)
                inner = way_table(program, body, ((), ()), most)
                self.assertEqual(call_table(machine, kept, inner, most), table_by(program, [lines], most))


class Ways(unittest.TestCase):

    def test_ways(self):
        """A piece without rings and "many", by all its RUNS."""
        rng, tried = rng_of(11), 0
        words = ("set", "set", "draw", "call", "one")
        while tried < 80:
            program = clean_program(rng, rings=False, words=words, size=2)
            runs = all_lines(program, program[2][0], 4, 6, 0)
            every = way_runs(program[2], program[2][0], 30, 30, 0)
            if len(runs) < len(every) or sum(count_terms(program, own) for own in runs) > 300:
                continue
            most, tables = rng.randint(0, 4), [()] * len(program[2])
            for number in reversed(range(len(tables))):
                tables[number] = way_table(program, program[2][number], tuple(tables), most)
            wanted = table_by(program, runs, most)
            self.assertEqual(tables[0], wanted, program)
            tried += 1

    def test_rounds(self):
        """A "many", by rounds until nothing new comes."""
        rng, tried = rng_of(12), 0
        while tried < 40:
            machine = random_machine(rng)
            body = random_way(rng, machine, [], 2, 0, ("set", "set", "draw"))
            lines = [own if own[0] == "set" else ("draw", own[1], ()) for own in body]
            program = (machine, ((0, 1),), ((("many", body),),))
            if count_terms(program, lines) > 100:
                continue
            most = rng.randint(0, 3)
            once = table_by(program, [lines], most)
            wanted, last = still_table(machine), None
            while wanted != last:
                last = wanted
                wanted = least_by((wanted, join_by(once, wanted, most)))
            self.assertEqual(way_table(program, program[2][0], ((),), most), wanted)
            self.assertEqual(many_table(machine, once, most), wanted)
            tried += 1

    def test_blocks_count_by_their_tables(self):
        rng = rng_of(13)
        for _ in range(60):
            machine = random_machine(rng)
            most = rng.randint(0, 5)
            tables = tuple(random_table(rng, machine, most, rng.choice((0, 8, 40))) for _ in range(2))
            way = random_way(rng, machine, [0, 1], 3, 2)
            program = (machine, ((0, 1),), ((("call", 1, ()),), ()))
            self.assertEqual(way_table(program, way, tables, most), self.way_by(machine, way, tables, most))

    def way_by(self, machine, way, tables, most):
        """By the functions for the pieces."""
        found = up_to(still_table(machine), most)
        for item in way:
            if item[0] == "call":
                own = call_table(machine, item[2], tables[item[1]], most)
            elif item[0] == "one":
                own = least_of([self.way_by(machine, inner, tables, most) for inner in item[1]])
            elif item[0] == "many":
                own = many_table(machine, self.way_by(machine, item[1], tables, most), most)
            else:
                own = line_table(machine, item, most)
            found = join_by(found, own, most)
        return found

    def test_runs_of_examples(self):
        machine, dealt = deep[0], deep[1]
        program = (machine, dealt, ((("one", (deep[2][1][0][1][0], ())), ("call", 1, (2,))), (("draw", 2), ("set", 0, ((2, 1),)))))
        inner = way_table(program, program[2][1], ((), ()), 2)
        runs = [lines_of_way(program, program[2][0], run)[0] for run in ((0,), (1,))]
        self.assertEqual(way_table(program, program[2][0], ((), inner), 2), table_by(program, runs, 2))
        self.assertEqual(len(item_runs(program[2], program[2][0][0], 5, 5, 0)), 2)
        lines = runs[0]
        self.assertEqual(draws_by(machine, lines, (((1, "put"), 1),)), [1])
        self.assertEqual(asked_at(machine, lines, 4, (), (1, 0, 1)), (1, 0, 1))


class Things(unittest.TestCase):

    def test_tables(self):
        machine = small
        for most in (0, 1, 6):
            table = line_table(machine, ("set", 1, ((0, 1),)), most)[:3]
            self.assertIs(is_table(machine, most, table), True)
            for thing in things_like(table):
                self.assertIs(is_table(machine, most, thing), predicates.table(machine, 3, most, thing), thing)
        step = line_table(small, ("set", 1, ((0, 1),)), 1)
        self.assertEqual([is_table(small, most, step) for most in (0, 1, 2, 6)], [False, True, True, True])
        self.assertIs(is_table(small, 0, ()), True)
        quiet = nobody(small)
        for thing in ((step[0], step[0]), step[::-1], ((quiet, quiet, 0), (quiet, quiet, 1)), ((quiet, quiet, -1),),
                      ((quiet, quiet),), ((quiet, quiet, True),), ((quiet[1:], quiet, 0),), [step[0]], None, "", 0, nest(30)):
            self.assertIs(is_table(small, 6, thing), False, thing)
        for machine in (thrice[0], (5, (0,), plain), bus[0]):
            still = still_table(machine)
            self.assertIs(is_table(machine, 0, still), True)
            self.assertIs(is_table(small, 0, still), False)
            self.assertIs(is_table(machine, 0, list(still)), False)


if __name__ == "__main__":
    unittest.main()
