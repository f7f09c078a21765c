"""[11]: least and closed tables, beside tables gone over naively and all RUNS."""

import unittest

import predicates
from anydlooks.closed import (
    are_closed, bad_entries, block_price, closed_tables, closing, deep_tables, is_shield, made_of, shield, withstands,
)
from anydlooks.errors import CanNot, NoBlock
from anydlooks.least import run_between
from anydlooks.pieces import price_in, way_table
from anydlooks.runs import lines_of
from reckon import clean_program, count_terms, length_of, rng_of, rows_of, table_by, things_like
from samples import bus, deep, half, plain, renew, small, thrice, tiny, turned
from whole import Naive, as_table, bad_form, finite_programs, put_together


def programs(seed, many, most_askings=32, **more):
    rng = rng_of(seed)
    while many:
        program = clean_program(rng, **more)
        if program[0][0] ** length_of(program[0]) <= most_askings:
            many -= 1
            yield rng, program


def random_tables(rng, program, most):
    askings = rows_of(program[0][0], length_of(program[0]))
    found = []
    for _ in program[2]:
        table = {}
        for _ in range(rng.choice((0, 3, 30))):
            table[rng.choice(askings), rng.choice(askings)] = rng.randint(0, most)
        found.append(as_table(table))
    return tuple(found)


def told_by(program, table):
    return tuple(own for own in table if not any(own[1]) and bad_form(program, own[0]))


class Tables(unittest.TestCase):

    def test_least_tables(self):
        """Beside a naive reckoning: all stages, for p 2, 3 and 5, rings and rounds."""
        primes, depths = set(), set()
        for rng, program in programs(1, 130):
            most = rng.randint(0, 4)
            stages = [tuple(as_table(own) for own in stage) for stage in Naive(program, most).stages()]
            self.assertEqual(closing(program, most), len(stages) - 1, program)
            self.assertEqual(closed_tables(program, most), stages[-1], program)
            for many in (0, 1, 2, 3, 20):
                self.assertEqual(deep_tables(program, most, many), stages[min(many, len(stages) - 1)])
            bad = told_by(program, stages[-1][0])
            self.assertEqual(bad_entries(program, stages[-1][0]), bad)
            self.assertIs(withstands(program, most), not bad)
            primes.add(program[0][0])
            depths.add(len(stages))
        self.assertEqual(primes, {2, 3, 5})
        self.assertTrue({2, 3, 4} <= depths, depths)

    def test_made(self):
        for rng, program in programs(2, 80):
            most = rng.randint(0, 4)
            tables = random_tables(rng, program, most)
            naive = Naive(program, most).made([put_together({}, own) for own in tables])
            self.assertEqual(made_of(program, tables, most), tuple(as_table(own) for own in naive))
            ways = tuple(way_table(program, way, tables, most) for way in program[2])
            self.assertEqual(made_of(program, tables, most), ways)

    def test_all_runs(self):
        """Where there are few RUNS, each entry is that of one of them."""
        for program, lines in finite_programs(rng_of(3), 60, terms=150):
            for most in (0, 2, 5):
                wanted = table_by(program, list(lines.values()), most)
                self.assertEqual(closed_tables(program, most)[0], wanted, program)

    def test_each_entry_has_a_run(self):
        """Also where there is no end of RUNS."""
        told = 0
        for rng, program in programs(4, 60, 16):
            most = rng.randint(0, 3)
            tables = closed_tables(program, most)
            for number, table in enumerate(tables):
                for ahead, behind, own in rng.sample(table, min(3, len(table))):
                    run = run_between(program, number, ahead, behind, own)
                    lines = lines_of((program[0], program[1], (program[2][number], *program[2][1:])), run) \
                        if number == 0 else self.lines_in(program, number, run)
                    if count_terms(program, lines) <= 200:
                        self.assertEqual(price_in(table_by(program, [lines], own), ahead, behind), own)
                        told += 1
                    if own:
                        less = run_between(program, number, ahead, behind, own - 1)
                        self.assertIsNone(less)
        self.assertGreater(told, 100)

    def lines_in(self, program, number, run):
        """The LINES of a run of another block: of a PROGRAM that calls this block alone, first."""
        blocks = (*program[2], (("call", number, ()),))
        order = [len(blocks) - 1, *range(len(blocks) - 1)]
        moved = tuple(self.renumbered(blocks[own]) for own in order)
        return lines_of((program[0], program[1], moved), run)

    def renumbered(self, way):
        found = []
        for item in way:
            if item[0] == "call":
                found.append(("call", item[1] + 1, item[2]))
            elif item[0] == "one":
                found.append(("one", tuple(self.renumbered(own) for own in item[1])))
            elif item[0] == "many":
                found.append(("many", self.renumbered(item[1])))
            else:
                found.append(item)
        return tuple(found)

    def test_multiples(self):
        """[10]: ENTRIES that are multiples have the same price."""
        for rng, program in programs(5, 40):
            known = {own[:2]: own[2] for own in closed_tables(program, 3)[0]}
            for (ahead, behind), own in known.items():
                for times in range(1, program[0][0]):
                    more = tuple(tuple(times * residue % program[0][0] for residue in asking) for asking in (ahead, behind))
                    self.assertEqual(known[more], own)

    def test_most(self):
        """With a greater most there are the same ENTRIES, and more."""
        for rng, program in programs(6, 40):
            whole = closed_tables(program, 6)
            for most in range(6):
                self.assertEqual(closed_tables(program, most), tuple(tuple(own for own in table if own[2] <= most) for table in whole))

    def test_blocks_without_items(self):
        empty = (small, ((0, 1),), ((),))
        for most in (0, 6):
            self.assertEqual(closed_tables(empty, most), (tuple((own, own, 0) for own in rows_of(2, 3)),))
        self.assertEqual(closing(empty, 3), 1)
        self.assertIs(withstands(empty, 6), True)
        calls = (small, ((0, 1),), ((("call", 1, ()),), ()))
        self.assertEqual(closing(calls, 0), 2)
        self.assertEqual(deep_tables(calls, 0, 1)[0], ())


class Closed(unittest.TestCase):

    def test_closed(self):
        closed = 0
        for rng, program in programs(7, 60, 16):
            most = rng.randint(0, 3)
            tables = closed_tables(program, most)
            self.assertIs(are_closed(program, most, tables), True)
            for _ in range(6):
                changed = [dict(put_together({}, own)) for own in tables]
                self.change(rng, program, changed, most)
                thing = tuple(as_table(own) for own in changed)
                made = Naive(program, most).made(changed)
                wanted = all(key in table and table[key] <= own for table, more in zip(changed, made) for key, own in more.items())
                self.assertIs(are_closed(program, most, thing), wanted)
                bad = told_by(program, thing[0])
                self.assertIs(is_shield(program, most, thing), wanted and not bad)
                closed += wanted
        self.assertGreater(closed, 40)

    def change(self, rng, program, tables, most):
        """Adds, takes out, or makes dearer or cheaper an entry."""
        askings = rows_of(program[0][0], length_of(program[0]))
        table = rng.choice(tables)
        key = rng.choice(sorted(table)) if table and rng.random() < 0.6 else (rng.choice(askings), rng.choice(askings))
        if key in table and rng.random() < 0.4:
            del table[key]
        else:
            table[key] = rng.randint(0, most)

    def test_everything_is_closed(self):
        for rng, program in programs(8, 20, 16):
            askings = rows_of(program[0][0], length_of(program[0]))
            every = tuple((ahead, behind, 0) for ahead in askings for behind in askings)
            thing = (every,) * len(program[2])
            self.assertIs(are_closed(program, 2, thing), True)
            self.assertIs(is_shield(program, 2, thing), False)

    def test_shield(self):
        for rng, program in programs(9, 60):
            for most in (0, 1, 3):
                if withstands(program, most):
                    self.assertEqual(shield(program, most), closed_tables(program, most))
                    self.assertIs(is_shield(program, most, shield(program, most)), True)
                else:
                    with self.assertRaises(CanNot) as caught:
                        shield(program, most)
                    self.assertEqual(vars(caught.exception), {})
                    self.assertIs(is_shield(program, most, closed_tables(program, most)), False)

    def test_prices(self):
        for rng, program in programs(10, 40, 16):
            most = rng.randint(0, 3)
            tables = closed_tables(program, most)
            askings = rows_of(program[0][0], length_of(program[0]))
            for number, table in enumerate(tables):
                for _ in range(5):
                    ahead, behind = rng.choice(askings), rng.choice(askings)
                    self.assertEqual(block_price(program, number, ahead, behind, most), price_in(table, ahead, behind))

    def test_no_block(self):
        quiet = (0, 0, 0)
        for number in (2, -1, 10 ** 30):
            with self.assertRaises(NoBlock) as caught:
                block_price(deep, number, quiet, quiet, 1)
            self.assertEqual(vars(caught.exception), {"number": number})

    def test_bad_entries_of_any_table(self):
        """Also of one that is nobody's."""
        quiet = (0,) * 5
        table = (((0, 1, 0, 0, 0), quiet, 0), ((1, 1, 0, 0, 0), quiet, 5), ((1, 1, 0, 0, 0), (1,) * 5, 0), ((1, 1, 1, 0, 1), quiet, 2))
        self.assertEqual(bad_entries(bus, table), (table[1], table[3]))
        self.assertEqual(bad_entries(bus, ()), ())
        two = (bus[0], ((0, 1), (2, 3)), bus[2])
        self.assertEqual(bad_entries(two, table), (table[1],))


class Things(unittest.TestCase):

    def test_things(self):
        for program, most in ((tiny, 1), (half, 0), (thrice, 2)):
            tables = tuple(own[:4] for own in closed_tables(program, most))
            for thing in things_like(tables):
                good = (type(thing) is tuple and len(thing) == len(program[2])
                        and all(predicates.table(program[0], length_of(program[0]), most, own) for own in thing))
                if not good:
                    self.assertIs(are_closed(program, most, thing), False, thing)
                    self.assertIs(is_shield(program, most, thing), False, thing)
                else:
                    self.assertIn(are_closed(program, most, thing), (True, False))
        tables = closed_tables(tiny, 1)
        self.assertIs(are_closed(tiny, 0, tables), False)
        self.assertIs(are_closed(tiny, 1, list(tables)), False)
        self.assertIs(are_closed(tiny, 1, (list(tables[0]), tables[1])), False)
        self.assertIs(are_closed(tiny, 1, tables[:1]), False)

    def test_examples_of_others(self):
        for program, price in ((renew, 3), (bus, 1), (turned, 2), (deep, 2)):
            self.assertEqual([withstands(program, most) for most in range(7)], [most < price for most in range(7)])
        self.assertIs(withstands((thrice[0][:2] + (plain[1:],), thrice[1], thrice[2]), 0), True)


if __name__ == "__main__":
    unittest.main()
