"""[15]: so much in each turn, beside Plays that tell the turns, and all LOOKS of all RUNS."""

import unittest

from predicates import is_set, residues
from anydlooks.closed import closed_tables
from anydlooks.each import (
    each_telling, height, is_each_telling, is_reach, least_height, reach, turn_count, turns, withstands_each,
)
from anydlooks.errors import Unfit
from anydlooks.forms import is_telling, price_of
from anydlooks.least import least_price
from reckon import clean_program, count_terms, length_of, rng_of, rows_of, some_runs, things_like
from samples import bus, deep, half, plain, renew, small, tiny, turned
from test_closed import programs
from test_forms import random_terms
from whole import Naive, TurnPlay, bad_form, finite_programs, height_by, tellings


class Turns(unittest.TestCase):

    def test_turns(self):
        """Beside a Play that opens and closes them."""
        rng, many = rng_of(1), set()
        for _ in range(250):
            program = clean_program(rng)
            for run in some_runs(program, 9, 6, 8):
                play = TurnPlay(program, run)
                self.assertEqual(turns(program, run), tuple(play.turns), (program, run))
                self.assertEqual(turn_count(program, run), play.begun, (program, run))
                many.add(play.begun)
                looks = tuple(mark for mark, _ in random_terms(rng, program, play.lines))
                self.assertEqual(height(program, run, looks), height_by(program, run, looks))
        self.assertGreater(max(many), 6)

    def test_turns_without_lines(self):
        """They count, too, also if there are very many."""
        loops = ((2, (None, None), plain), ((0, 1),), (
            (("many", (("call", 1, ()),)), ("draw", 0), ("many", (("many", ()), ("draw", 1))), ("call", 1, (0,))), (("call", 2, ()),), ()))
        self.assertEqual(turn_count(loops, (0, 0)), 3)
        self.assertEqual(turns(loops, (0, 0)), (0, 0))
        self.assertEqual(turn_count(loops, (10 ** 6, 2, 3, 10 ** 5)), 1 + 3 * 10 ** 6 + 2 + 3 + 10 ** 5 + 2)
        start = 3 * 10 ** 6 + 1
        self.assertEqual(turns(loops, (10 ** 6, 2, 3, 10 ** 5)), (0, start, start + 4, 0))

    def test_unfit(self):
        for call in (lambda run: turns(deep, run), lambda run: turn_count(deep, run), lambda run: height(deep, run, ())):
            for run in ((), (1,), (2,), (0, 0), (-1,), (True,)):
                with self.assertRaises(Unfit) as caught:
                    call(run)
                self.assertEqual(vars(caught.exception), {})
        for looks in (((0, "pass"),), ((1, "put"),), ((0, "turn"), (0, "put")), ((0, "put"), (0, "put")), ((-1, "put"),), (0,)):
            with self.assertRaises(Unfit):
                height(deep, (0,), looks)
        self.assertEqual(height(deep, (0,), ()), 0)
        self.assertEqual(height(deep, [0], [[0, "put"], [0, "turn"]]), 2)


class Heights(unittest.TestCase):

    def test_all_looks(self):
        """Where there are few RUNS: the least height of terms that tell."""
        told = 0
        for program, lines in finite_programs(rng_of(2), 70, terms=250):
            heights = [height_by(program, run, [mark for mark, _ in terms]) for run, terms, _ in tellings(program, lines)]
            self.check(program, min(heights, default=None))
            told += bool(heights)
        self.assertGreater(told, 15)

    def test_rounds(self):
        """Rounds and rings: RUNS up to bounds tell at no less; the TELLING given tells at it."""
        rng, low = rng_of(3), 0
        for _ in range(90):
            program = clean_program(rng, size=2)
            least = least_height(program)
            runs = [run for run in some_runs(program, 5, 5, 12) if count_terms(program, TurnPlay(program, run).lines) <= 100]
            found = tellings(program, {run: TurnPlay(program, run).lines for run in runs})
            heights = [height_by(program, run, [mark for mark, _ in terms]) for run, terms, _ in found]
            self.assertTrue(least is None and not heights or least is not None and min(heights, default=99) >= least)
            self.check(program, least)
            price = least_price(program)
            self.assertIs(least is None, price is None)
            self.assertTrue(least is None or least <= price)
            low += least is not None and least < price
        self.assertGreater(low, 1)

    def check(self, program, least):
        self.assertEqual(least_height(program), least, program)
        for most in range(7):
            stands = least is None or most < least
            self.assertIs(withstands_each(program, most), stands)
            found = each_telling(program, most) if most in (0, 1, 2, least, 6) else None
            if stands:
                self.assertIsNone(found)
            elif most in (0, 1, 2, least, 6):
                run, terms = found
                marks = [mark for mark, _ in terms]
                self.assertIs(is_telling(program, found), True)
                self.assertLessEqual(height_by(program, run, marks), most)
                self.assertEqual(height(program, run, tuple(marks)), height_by(program, run, marks))
                for own in range(7):
                    self.assertIs(is_each_telling(program, own, found), height_by(program, run, marks) <= own)

    def test_great_heights(self):
        """Above 6: prices of 9, all in one turn or not."""
        dear = ((*renew[0][:2], (("put", 9),)), *renew[1:])
        self.assertEqual(least_height(dear), 27)
        self.assertIsNone(each_telling(dear, 6))
        apart = (dear[0], dear[1], (tuple(("call", k + 1, ()) for k in range(5)), *[(item,) for item in dear[2][0]]))
        self.assertEqual(least_height(apart), 9)
        self.assertEqual(least_price(apart), 27)
        self.assertEqual([least_height(own) for own in (half, tiny)], [None, 1])

    def test_put_back_is_the_callers(self):
        """The put back and the caller's LINES are one turn, the callee's LINES another one."""
        program = ((2, (None,) * 3, (("put", 1),)), ((0, 1),), (
            (("set", 2, ((0, 1),)), ("call", 1, (2,))), (("set", 2, ((1, 1),)),)))
        self.assertEqual(turns(program, ()), (0, 1, 0))
        self.assertEqual([height(program, (), looks) for looks in (((0, "put"), (1, "put")), ((0, "put"), (2, "put")))], [1, 2])
        self.assertEqual(least_height(program), 1)
        kept = (program[0], program[1], ((("set", 2, ((0, 1),)), ("call", 1, (2,)), ("set", 2, ((1, 1),))), (("draw", 2),)))
        self.assertEqual(least_height(kept), 2)

    def test_apart(self):
        """Huge numbers of rounds: the turns of marks are told without writing them out."""
        far = 10 ** 30
        shifted = ((far,), (((12 * 10 ** 20 + 1, "turn"), 1), ((12 * 10 ** 20 + 5, "put"), 1)))
        self.assertIs(is_telling(turned, shifted), True)
        self.assertIs(is_each_telling(turned, 1, shifted), True)
        self.assertIs(is_each_telling(turned, 0, shifted), False)
        within = ((far,), (((12 * 10 ** 20, "put"), 1), ((12 * 10 ** 20 + 2, "turn"), 1)))
        self.assertIs(is_telling(turned, within), True)
        self.assertIs(is_each_telling(turned, 1, within), False)
        self.assertIs(is_each_telling(turned, 2, within), True)

    def test_things(self):
        good = ((2,), (((1, "turn"), 1), ((5, "put"), 1)))
        for thing in things_like(good):
            wanted = isinstance(thing, tuple) and len(thing) == 2 and is_telling(turned, thing) \
                and height_by(turned, (min(thing[0][0], 5),), [mark for mark, _ in thing[1]]) <= 1
            self.assertIs(is_each_telling(turned, 1, thing), wanted, thing)


class Reaches(unittest.TestCase):

    def test_least(self):
        primes = set()
        for rng, program in programs(4, 80, 25):
            most = rng.randint(0, 4)
            naive = Naive(program, most, by_turns=True).least()
            wanted = tuple(tuple(sorted(own)) for own in naive)
            self.assertEqual(reach(program, most), wanted, (program, most))
            self.assertIs(is_reach(program, most, wanted), True)
            quiet = (0,) * length_of(program[0])
            bad = [own for own in wanted[0] if own[1] == quiet and bad_form(program, own[0])]
            self.assertIs(withstands_each(program, most), not bad)
            primes.add(program[0][0])
            tables = closed_tables(program, most)
            self.assertTrue(all({own[:2] for own in table} <= set(pairs) for table, pairs in zip(tables, wanted)))
        self.assertEqual(primes, {2, 3, 5})

    def test_closed(self):
        closed = 0
        for rng, program in programs(5, 40, 9):
            most = rng.randint(0, 3)
            askings, least = rows_of(program[0][0], length_of(program[0])), reach(program, most)
            for _ in range(8):
                changed = [dict.fromkeys(own, 0) for own in least]
                for _ in range(rng.randint(1, 3)):
                    table, key = rng.choice(changed), (rng.choice(askings), rng.choice(askings))
                    if rng.random() < 0.3 and table:
                        del table[rng.choice(sorted(table))]
                    else:
                        table[key] = 0
                made = Naive(program, most, by_turns=True).made(changed)
                wanted = all(set(more) <= set(table) for table, more in zip(changed, made))
                self.assertIs(is_reach(program, most, tuple(tuple(sorted(own)) for own in changed)), wanted)
                closed += wanted
        self.assertGreater(closed, 20)

    def test_things(self):
        for program in (half, tiny):
            length = length_of(program[0])
            pairs = tuple(own[:3] for own in reach(program, 1))
            for thing in things_like(pairs):
                good = type(thing) is tuple and len(thing) == len(program[2]) and all(
                    is_set(own, lambda pair: type(pair) is tuple and len(pair) == 2
                           and all(residues(more, program[0][0], length) for more in pair)) for own in thing)
                self.assertIn(is_reach(program, 1, thing), (True, False) if good else (False,))
        self.assertIs(is_reach(bus, 0, list(reach(bus, 0))), False)
        self.assertIs(is_reach(bus, 0, reach(bus, 1)), True)
        self.assertIs(is_reach(bus, 1, reach(bus, 0)), False)

    def test_edges(self):
        empty = (small, ((0, 1),), ((),))
        self.assertEqual(reach(empty, 6), (tuple((own, own) for own in rows_of(2, 3)),))
        self.assertEqual((least_height(empty), each_telling(empty, 6), turns(empty, ()), turn_count(empty, ())), (None, None, (), 1))
        self.assertEqual(price_of(turned[0], ((1, "turn"), (5, "put"))), 2)


if __name__ == "__main__":
    unittest.main()
