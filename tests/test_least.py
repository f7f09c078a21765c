"""[12]: least prices, least RUNS and RELATIONS, beside naive tables and all RUNS."""

import unittest

from predicates import is_set, residues
from anydlooks.askings import form_prices, least_terms
from anydlooks.closed import block_price, closed_tables, withstands
from anydlooks.errors import CanNot, NoBlock, TooMany
from anydlooks.forms import is_telling, price_of
from anydlooks.least import (
    are_relations, cheapest_telling, fewest_lines, is_never_paper, least_price, least_relations, least_telling,
    line_steps, never_paper, never_told, run_between,
)
from anydlooks.runs import least_run, lines_of, runs_to
from reckon import Play, clean_program, length_of, rng_of, rows_of, things_like, way_runs
from samples import bus, deep, half, plain, renew, slow, thrice, tiny, turned
from test_closed import programs
from whole import Naive, asks_between, bad_form, finite_programs, lesser, tellings
from reckon import price as price_by


def relation_by(table):
    return tuple(sorted(table))


class Prices(unittest.TestCase):

    def test_least_price(self):
        """Beside naive tables to a great price."""
        dear = 0
        for rng, program in programs(1, 90, 16):
            told = Naive(program, 14).told()
            least = least_price(program)
            if least is None:
                self.assertEqual(told, {})
                self.assertIs(never_told(program), True)
            elif least <= 14:
                self.assertEqual(least, min(told.values()))
                self.assertIs(never_told(program), False)
                dear += least > 4
            for most in range(7):
                self.assertIs(withstands(program, most), least is None or most < least)
        self.assertGreater(dear, 0)

    def test_all_runs(self):
        """Where there are few RUNS: all their terms, cheapest and fewest lines."""
        told = 0
        for program, lines in finite_programs(rng_of(2), 60, terms=250):
            every = [(price_by(program, terms), lesser(program, run)) for run, terms, _ in tellings(program, lines)]
            self.assertEqual(least_price(program), min((own for own, _ in every), default=None), program)
            for most in (0, 1, 2, 4, 6, 9):
                good = [order for own, order in every if own <= most]
                run = min(good)[2] if good else None
                self.telling(program, least_telling(program, most), run, most)
                self.assertEqual(fewest_lines(program, most), min(good)[0] if good else None)
                self.assertEqual(line_steps(program, most), self.steps([own for own in every if own[0] <= most]))
            cheapest = min(every, default=(0, (0, 0, None)))
            self.telling(program, cheapest_telling(program), cheapest[1][2], cheapest[0])
            told += bool(every)
        self.assertGreater(told, 15)

    def telling(self, program, found, run, most):
        if run is None:
            self.assertIsNone(found)
        else:
            self.assertEqual(found, (run, least_terms(program, run)))
            self.assertIs(is_telling(program, found), True)
            self.assertLessEqual(price_by(program, found[1]), most)

    def steps(self, every):
        found = []
        for own in sorted({own for own, _ in every}):
            lines = min(order[0] for price, order in every if price <= own)
            if not found or lines < found[-1][1]:
                found.append((own, lines))
        return tuple(found)

    def test_lesser_runs_tell_nothing(self):
        """Also where there is no end of RUNS: all lesser ones, one after another."""
        rng, told = rng_of(3), {}
        for _ in range(240):
            program, most = clean_program(rng), rng.randint(0, 6)
            try:
                found = least_telling(program, most)
            except TooMany:
                continue
            lines = 5 if found is None else len(lines_of(program, found[0]))
            self.assertEqual(fewest_lines(program, most), None if found is None else lines)
            for run in self.runs_to(program, lines):
                if found is not None and run == found[0]:
                    told[len(run)] = told.get(len(run), 0) + 1
                    break
                self.assertFalse(self.tells(program, run, most), (program, most, run))
            if found is not None:
                self.assertTrue(self.tells(program, found[0], most))
                self.assertEqual(found[1], least_terms(program, found[0]))
        self.assertGreater(sum(told[own] for own in told if own >= 2), 10)

    def tells(self, program, run, most):
        try:
            return any(own <= most for _, own in form_prices(program, run))
        except TooMany:
            return False

    def runs_to(self, program, lines):
        for many in range(lines, -1, -1):
            try:
                return runs_to(program, many)
            except TooMany:
                continue
        return []

    def test_cheapest(self):
        """The least RUN of the least price; with this price as most it is least_telling's."""
        for rng, program in programs(4, 80, 32):
            least = least_price(program)
            try:
                found = cheapest_telling(program)
                if least is None:
                    self.assertIsNone(found)
                    continue
                self.assertEqual(price_of(program[0], [mark for mark, _ in found[1]]), least)
                if least <= 6:
                    self.assertEqual(found, least_telling(program, least))
                    self.assertEqual(fewest_lines(program, least), line_steps(program, 6)[0][1])
                    self.assertEqual(line_steps(program, 6)[0][0], least)
                    self.assertIsNone(least_telling(program, least - 1) if least else None)
            except TooMany:
                continue

    def test_guarantee_of_lines(self):
        """No more LINES with a greater most; line_steps tells where there are fewer."""
        for rng, program in programs(5, 40, 32):
            lines = [fewest_lines(program, most) for most in range(7)]
            steps = dict(line_steps(program, 6))
            last = None
            for most, own in enumerate(lines):
                self.assertTrue(last is None or own <= last)
                self.assertEqual(steps.get(most), own if own != last else None)
                last = own
            for most in range(7):
                self.assertEqual(line_steps(program, most), tuple(own for own in line_steps(program, 6) if own[0] <= most))

    def test_great_prices(self):
        """A price above 6, found at once by many LINES that have to be looked at."""
        dear = (renew[0][:2] + ((("put", 9),),), renew[1], renew[2])
        self.assertEqual(least_price(dear), 27)
        self.assertEqual(cheapest_telling(dear)[1], tuple(((k, "put"), 1) for k in (2, 3, 4)))
        self.assertIsNone(least_telling(dear, 6))
        pair = (("draw", 2), ("set", 0, ((0, 1), (2, 1))))
        deep_chain = ((2, (None,) * 4, (("turn", 1),)), ((0, 1),), (
            (("call", 1, ()), ("set", 3, ((0, 1), (1, 1)))), (("call", 2, ()),) * 12, (("call", 3, ()),) * 9, pair * 6))
        self.assertEqual(least_price(deep_chain), 12 * 9 * 6 // 2 + 1)
        self.assertEqual(fewest_lines(deep_chain, 6), None)

    def test_too_many(self):
        """least_terms raises it for the RUN, not the other functions."""
        keeping = ((2, (None,) * 5, (("put", 1),)), ((0, 1),), (
            (("call", 1, (0, 1, 2)), ("set", 2, ((0, 1),)), ("set", 2, ((1, 1),))), (("call", 2, (0, 1, 2)),), (("draw", 0), ("draw", 1))))
        with self.assertRaises(TooMany):
            least_terms(keeping, ())
        for call in (lambda: least_telling(keeping, 2), lambda: cheapest_telling(keeping)):
            with self.assertRaises(TooMany) as caught:
                call()
            self.assertEqual(vars(caught.exception), {})
        self.assertEqual(least_price(keeping), 2)
        self.assertEqual(fewest_lines(keeping, 2), 10)
        self.assertEqual(line_steps(keeping, 6), ((2, 10),))
        self.assertIsNone(least_telling(keeping, 1))

    def test_exponents(self):
        """LINES are counted without being written out."""
        blocks = [(("call", number + 1, ()),) * 7 for number in range(5)]
        last = (("set", 2, ((0, 1),)),) * 5
        tall = ((2, (None,) * 3, (("put", 1),)), ((0, 1),), (*blocks[:4], last + (("set", 2, ((0, 1), (1, 1))),)))
        self.assertEqual(fewest_lines(tall, 3), 6 * 7 ** 4)
        self.assertEqual(line_steps(tall, 3), ((1, 6 * 7 ** 4),))


class Between(unittest.TestCase):

    def test_between(self):
        """All runs of a block up to bounds, lesser ones first, by all terms."""
        rng, told, none = rng_of(6), 0, 0
        for _ in range(250):
            program = clean_program(rng, size=2)
            if program[0][0] ** length_of(program[0]) > 16:
                continue
            askings = rows_of(program[0][0], length_of(program[0]))
            for number in range(len(program[2])):
                most = rng.randint(0, 3)
                ahead, behind = rng.choice(askings), rng.choice(askings)
                table = closed_tables(program, most)[number]
                if rng.random() < 0.7:
                    ahead, behind = rng.choice(table)[:2]
                found = run_between(program, number, ahead, behind, most)
                price = block_price(program, number, ahead, behind, most)
                self.assertIs(found is None, price is None)
                if found is None:
                    none += 1
                    continue
                for order, run, lines in self.runs(program, number, found):
                    good = asks_between(program, lines, ahead, behind, most)
                    if run == found:
                        self.assertTrue(good, (program, number, ahead, behind, most))
                        told += 1
                        break
                    self.assertFalse(good, (program, number, ahead, behind, most, run))
        self.assertGreater(told, 20)
        self.assertGreater(none, 20)

    def runs(self, program, number, found):
        """The runs of the block that are no greater, of few lines."""
        moved = (program[0], program[1], (*program[2], ()))
        own = [BlockPlay(moved, number, found)]
        lines = len(own[0].lines)
        if lines > 4:
            return []
        every = [run for run, _ in way_runs(program[2], program[2][number], lines, max(3, len(found)), 4)]
        plays = [(run, BlockPlay(moved, number, run).lines) for run in every]
        plays.sort(key=lambda pair: (len(pair[1]), len(pair[0]), pair[0]))
        return [((len(lines), len(run), run), run, lines) for run, lines in plays]

    def test_errors(self):
        for number in (2, -1, 10 ** 30):
            with self.assertRaises(NoBlock) as caught:
                run_between(deep, number, (0, 0, 0), (0, 0, 0), 1)
            self.assertEqual(vars(caught.exception), {"number": number})

    def test_nothing_asked(self):
        """The least run of all, if nobody asks."""
        for rng, program in programs(7, 40):
            quiet = (0,) * length_of(program[0])
            self.assertEqual(run_between(program, 0, quiet, quiet, 0), least_run(program))


class BlockPlay(Play):
    """A Play of another block."""

    def __init__(self, program, number, run):
        blocks = (*program[2][:-1], (("call", number, ()),))
        start = len(blocks) - 1
        self.start = start
        super().__init__((program[0], program[1], blocks), run)

    def way(self, prefix, way):
        if prefix == (0,) and self.start is not None:
            prefix, way, self.start = (self.start,), self.blocks[self.start], None
        super().way(prefix, way)


class Relations(unittest.TestCase):

    def test_least(self):
        primes = set()
        for rng, program in programs(8, 80, 27):
            naive = Naive(program, 0, free=True).least()
            wanted = tuple(relation_by(own) for own in naive)
            self.assertEqual(least_relations(program), wanted, program)
            primes.add(program[0][0])
            quiet = (0,) * length_of(program[0])
            bad = [own for own in wanted[0] if own[1] == quiet and bad_form(program, own[0])]
            self.assertIs(never_told(program), not bad)
            if bad:
                with self.assertRaises(CanNot) as caught:
                    never_paper(program)
                self.assertEqual(vars(caught.exception), {})
                self.assertIs(is_never_paper(program, wanted), False)
            else:
                self.assertEqual(never_paper(program), wanted)
                self.assertIs(is_never_paper(program, wanted), True)
            self.assertIs(are_relations(program, wanted), True)
            for most in (0, 6):
                tables = closed_tables(program, most)
                self.assertTrue(all({own[:2] for own in table} <= set(pairs) for table, pairs in zip(tables, wanted)))
        self.assertEqual(primes, {2, 3, 5})

    def test_closed(self):
        closed = quiet = 0
        for rng, program in programs(9, 40, 9):
            askings = rows_of(program[0][0], length_of(program[0]))
            least, nobody = least_relations(program), askings[0]
            for _ in range(8):
                changed = [dict.fromkeys(own, 0) for own in least]
                for _ in range(rng.randint(1, 3)):
                    table, key = rng.choice(changed), (rng.choice(askings), rng.choice(askings))
                    if rng.random() < 0.3 and table:
                        del table[rng.choice(sorted(table))]
                    else:
                        table[key] = 0
                made = Naive(program, 0, free=True).made(changed)
                wanted = all(set(more) <= set(table) for table, more in zip(changed, made))
                thing = tuple(relation_by(own) for own in changed)
                self.assertIs(are_relations(program, thing), wanted)
                bad = any(own[1] == nobody and bad_form(program, own[0]) for own in thing[0])
                self.assertIs(is_never_paper(program, thing), wanted and not bad)
                closed += wanted
                quiet += wanted and not bad
        self.assertGreater(closed, 30)
        self.assertGreater(quiet, 3)

    def test_things(self):
        for program in (half, tiny):
            length = length_of(program[0])
            relations = tuple(own[:3] for own in least_relations(program))
            for thing in things_like(relations):
                good = type(thing) is tuple and len(thing) == len(program[2]) and all(
                    is_set(own, lambda pair: type(pair) is tuple and len(pair) == 2
                           and all(residues(more, program[0][0], length) for more in pair)) for own in thing)
                if not good:
                    self.assertIs(are_relations(program, thing), False, thing)
                    self.assertIs(is_never_paper(program, thing), False, thing)
                else:
                    self.assertIn(are_relations(program, thing), (True, False))
        whole = least_relations(half)
        for thing in (list(whole), (list(whole[0]),), whole + whole, whole[0], None, (), ((None,),), (((0, 0, 0),),)):
            self.assertIs(are_relations(half, thing), False)

    def test_prices_do_not_count(self):
        for program in (renew, bus, turned, deep, slow, thrice):
            dear = ((*program[0][:2], tuple((word, 9) for word, _ in program[0][2])), *program[1:])
            self.assertEqual(least_relations(program), least_relations(dear))
        empty = ((2, (None, None), plain), ((0, 1),), ((),))
        self.assertEqual(least_relations(empty), (tuple((own, own) for own in rows_of(2, 2)),))
        self.assertIs(never_told(empty), True)


if __name__ == "__main__":
    unittest.main()
