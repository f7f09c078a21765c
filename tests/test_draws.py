"""[17]: draws left out and taken from registers, beside all sets of draws tried out."""

import itertools
import unittest

from anydlooks.closed import withstands
from anydlooks.draws import (
    can_go, comes_of, draws, fewest_draws, greatest_spared, left_out, sources_for, taken_from, with_fewest,
)
from anydlooks.errors import NoItem, NoRegister, TooMany
from anydlooks.forms import is_telling
from anydlooks.least import cheapest_telling
from anydlooks.programs import is_clean, is_program, items_of, replaced
from anydlooks.runs import lines_of
from reckon import clean_program, rng_of, some_runs, things_like
from samples import bus, deep, four, mask, plain, renew, small, turned, two
from whole import Naive


def drawing(seed, many, most_draws=4, words=("draw", "draw", "set", "set", "set", "one", "many", "call")):
    rng, found = rng_of(seed), 0
    while found < many:
        program = clean_program(rng, words=words, size=4)
        if 1 <= len(draws_by(program)) <= most_draws:
            found += 1
            yield rng, program


def draws_by(program):
    return [path for path, item in items_of(program) if item[0] == "draw"]


def exchanged(program, choice):
    """The program with draws left out (None) or taken from registers, as a dict tells by paths."""
    for path, slot in choice.items():
        own = dict(items_of(program))[path][1]
        program = replaced(program, path, (("set", own, () if slot is None else ((slot, 1),)),))
    return program


def some_masks(seed, many):
    """Parts masked before they are added up: some of the draws are needed."""
    rng = rng_of(seed)
    for _ in range(many):
        way, spare = [], rng.choice((2, 3))
        for slot in rng.sample((2, 3), spare - 1):
            way.append(("draw", slot))
        way += [("set", slot, tuple(sorted({(part, 1), (slot, 1)}))) for slot, part in ((2, 0), (3, 1))]
        rng.shuffle(way[spare - 1:])
        way.append(("set", rng.choice((2, 3)), ((2, 1), (3, 1))))
        if rng.random() < 0.4:
            way.insert(rng.randrange(len(way)), ("draw", rng.choice((2, 3))))
        if rng.random() < 0.3:
            way = [("many", tuple(way))]
        yield rng, (four, ((0, 1),), (tuple(way),))


def programs(seed, many, most_draws=3):
    return [*drawing(seed, many, most_draws), *[own for own in some_masks(seed, many) if len(draws_by(own[1])) <= most_draws]]


class Draws(unittest.TestCase):

    def test_draws(self):
        for rng, program in drawing(1, 80, 9):
            paths = draws_by(program)
            self.assertEqual(draws(program), tuple(sorted(paths)))
            some = tuple(sorted(rng.sample(paths, rng.randint(0, len(paths)))))
            self.assertEqual(left_out(program, some), exchanged(program, dict.fromkeys(some)))
            path, slot = rng.choice(paths), rng.randrange(len(program[0][1]))
            self.assertEqual(taken_from(program, path, slot), exchanged(program, {path: slot}))
            for own in (left_out(program, some), taken_from(program, path, slot)):
                self.assertIs(is_program(own), True)
                self.assertIs(comes_of(program, own), True)
                self.assertIs(comes_of(own, program), own == program)
        self.assertEqual(draws(bus), ())
        self.assertEqual(left_out(deep, ()), deep)

    def test_guarantees(self):
        """RUNS stay RUNS, LINE for LINE; a TELLING stays a TELLING."""
        tellings = 0
        for rng, program in drawing(2, 60, 9):
            paths = draws_by(program)
            choice = {path: rng.choice([None, *range(len(program[0][1]))]) for path in rng.sample(paths, rng.randint(1, len(paths)))}
            own = exchanged(program, choice)
            self.assertIs(comes_of(program, own), True)
            for run in some_runs(program, 6, 5, 5):
                self.assertEqual([line[1] for line in lines_of(own, run)], [line[1] for line in lines_of(program, run)])
            try:
                telling = cheapest_telling(program)
            except TooMany:
                continue
            if telling is not None:
                tellings += 1
                self.assertIs(is_telling(own, telling), True)
            for most in (0, 1, 3):
                self.assertTrue(withstands(program, most) or not withstands(own, most))
        self.assertGreater(tellings, 10)

    def test_sets_of_draws(self):
        """All sets of draws tried out."""
        spared = some = 0
        for rng, program in programs(3, 30):
            paths = sorted(draws_by(program))
            for most in (0, 1, 2):
                good = [own for size in range(len(paths) + 1) for own in itertools.combinations(paths, size)
                        if not self.told(exchanged(program, dict.fromkeys(own)), most)]
                greatest = tuple(sorted(own for own in good if not any(set(own) < set(more) for more in good)))
                self.assertEqual(greatest_spared(program, most), greatest, (program, most))
                self.assertEqual(can_go(program, most), tuple(path for path in paths if (path,) in good))
                self.assertEqual(fewest_draws(program, most),
                                 min((len(paths) - len(own) for own in good), default=None))
                for path in paths:
                    wanted = [slot for slot in range(len(program[0][1])) if not self.told(exchanged(program, {path: slot}), most)]
                    self.assertEqual(sources_for(program, path, most), tuple(wanted))
                spared += len(greatest) > 1
                some += bool(greatest) and greatest != (tuple(paths),)
        self.assertGreater(spared, 2)
        self.assertGreater(some, 10)

    def told(self, program, most):
        return not withstands(program, most)

    def test_told_by_naive_tables(self):
        for rng, program in programs(4, 12, 2):
            if len(program[0][1]) > 4:
                continue
            for most in (0, 2):
                wanted = [path for path in sorted(draws_by(program)) if not Naive(exchanged(program, {path: None}), most).told()]
                self.assertEqual(can_go(program, most), tuple(wanted))

    def test_with_fewest(self):
        """Each draw kept, left out, or taken from a register: the fewest draws of all."""
        fewer = none = 0
        for rng, program in programs(5, 22):
            paths, slots = draws_by(program), range(len(program[0][1]))
            if (len(slots) + 2) ** len(paths) > 300:
                with self.assertRaises(TooMany) as caught:
                    with_fewest(program, 1)
                self.assertEqual(vars(caught.exception), {})
                continue
            for most in (0, 1, 2):
                counts = []
                for choice in itertools.product(["kept", None, *slots], repeat=len(paths)):
                    own = {path: slot for path, slot in zip(paths, choice) if slot != "kept"}
                    if not counts or len(paths) - len(own) < min(counts):
                        if not self.told(exchanged(program, own), most):
                            counts.append(len(paths) - len(own))
                found = with_fewest(program, most)
                if not counts:
                    self.assertIsNone(found)
                    none += 1
                    continue
                self.assertEqual(len(draws(found)), min(counts), (program, most))
                self.assertIs(comes_of(program, found), True)
                self.assertIs(withstands(found, most), True)
                fewer += len(draws(found)) < fewest_draws(program, most)
        self.assertGreater(fewer, 1)
        self.assertGreater(none, 3)

    def test_too_many(self):
        """More than 6 draws; with_fewest: 300, and one more."""
        def of(many, slots):
            return (2, (None,) * slots, plain), ((0, 1),), ((("draw", 1),) * many,)
        for call in (lambda own: greatest_spared(own, 1), lambda own: fewest_draws(own, 1)):
            call(of(6, 2))
            with self.assertRaises(TooMany) as caught:
                call(of(7, 2))
            self.assertEqual(vars(caught.exception), {})
        loud = of(7, 2)[:2] + (of(7, 2)[2][0] + (("set", 0, ((0, 1), (1, 1))),),)
        for call in (greatest_spared, fewest_draws, with_fewest):
            with self.assertRaises(TooMany):
                call((loud[0], loud[1], (loud[2],)), 6)
        self.assertEqual(len(draws(with_fewest(of(4, 2), 1))), 0)
        with self.assertRaises(TooMany):
            with_fewest(of(5, 2), 1)
        self.assertEqual(draws(with_fewest(of(3, 4), 0)), ())
        with self.assertRaises(TooMany):
            with_fewest(of(3, 5), 0)
        self.assertEqual(can_go(of(7, 2), 0), draws(of(7, 2)))

    def test_none(self):
        """A PROGRAM that tells anyway, one without draws."""
        self.assertEqual((greatest_spared(bus, 1), fewest_draws(bus, 1), with_fewest(bus, 1), can_go(bus, 1)), ((), None, None, ()))
        self.assertEqual((greatest_spared(bus, 0), fewest_draws(bus, 0), with_fewest(bus, 0)), (((),), 0, bus))
        self.assertEqual((greatest_spared(renew, 3), fewest_draws(renew, 3)), ((), None))
        self.assertEqual(greatest_spared(turned, 1), ((),))
        self.assertEqual(sources_for(mask, (0, 0), 2), ())


class Things(unittest.TestCase):

    def test_comes_of(self):
        for program in (mask, two, deep):
            own = taken_from(program, draws(program)[0], 1)
            for thing in things_like(own):
                self.assertIs(comes_of(program, thing), self.wanted(program, thing), thing)
        self.assertIs(comes_of(mask, mask), True)
        self.assertIs(comes_of(mask, list(mask)), False)
        odd = (mask[0], mask[1], ((("set", 2, ((0, 1), (1, 1))), *mask[2][0][1:]),))
        self.assertIs(comes_of(mask, odd), False)
        self.assertIs(comes_of(mask, (mask[0], mask[1], ((("set", 1, ()), *mask[2][0][1:]),))), False)
        twice = ((3, *mask[0][1:]), mask[1], ((("draw", 2),),))
        for residue, wanted in ((1, True), (2, False)):
            self.assertIs(comes_of(twice, (*twice[:2], ((("set", 2, ((0, residue),)),),))), wanted)

    def wanted(self, program, thing):
        if not is_program(thing) or thing[:2] != program[:2] or len(thing[2]) != len(program[2]):
            return False
        ones, others = items_of(program), items_of(thing)
        if [path for path, _ in ones] != [path for path, _ in others]:
            return False
        for (_, one), (_, other) in zip(ones, others):
            if one[0] == "draw" and other[0] == "set":
                if other[1] != one[1] or len(other[2]) > 1 or other[2] and other[2][0][1] != 1:
                    return False
            elif one[0] in ("one", "many"):
                if one[0] != other[0] or one[0] == "one" and [len(own) for own in one[1]] != [len(own) for own in other[1]]:
                    return False
            elif one != other:
                return False
        return True

    def test_errors(self):
        for path in ((0, 1), (0,), (), (0, 3), (9, 0), (0, -1), (-1, 0), (0, False), (0, 0, 0)):
            for call in (lambda: left_out(mask, (path,)), lambda: left_out(mask, ((0, 0), path)), lambda: taken_from(mask, path, 0),
                         lambda: sources_for(mask, path, 1)):
                with self.assertRaises(NoItem) as caught:
                    call()
                self.assertEqual(vars(caught.exception), {"path": path})
        with self.assertRaises(NoItem) as caught:
            left_out(two, [[0, 9], [0, 4]])
        self.assertEqual(caught.exception.path, (0, 9))
        for slot in (3, -1, 10 ** 30):
            for path in ((0, 0), (0, 1)):
                with self.assertRaises(NoRegister) as caught:
                    taken_from(mask, path, slot)
                self.assertEqual(vars(caught.exception), {"number": slot})

    def test_edges(self):
        empty = (small, ((0, 1),), ((),))
        self.assertEqual((draws(empty), can_go(empty, 6), greatest_spared(empty, 6), fewest_draws(empty, 6)), ((), (), ((),), 0))
        self.assertEqual(with_fewest(empty, 6), empty)
        self.assertIs(is_clean(left_out(deep, draws(deep))), True)


if __name__ == "__main__":
    unittest.main()
