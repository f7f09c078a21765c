"""[18]: renewals and where they are put in, beside all that is held and drawn, and all sets of spots."""

import itertools
import unittest

from anydlooks.closed import withstands
from anydlooks.errors import NoItem, NoRegister, TooMany, Unfit
from anydlooks.forms import is_telling
from anydlooks.programs import is_program, is_way, items_of
from anydlooks.renewals import (
    fewest_renewals, harming, helping, how_free, keeps_sum, put_in, renewal, renewed, renews, spots,
)
from reckon import Play, all_terms, clean_program, count_terms, random_machine, random_way, rng_of, rows_of
from samples import bus, deep, four, mask, over, plain, small, still, turned


def played_behind(machine, way, held, drawn):
    slots, left = list(held), list(drawn)
    for item in way:
        if item[0] == "draw":
            slots[item[1]] = left.pop(0)
        else:
            slots[item[1]] = sum(slots[slot] * factor for slot, factor in item[2]) % machine[0]
    return slots


def all_behind(machine, way):
    """The pairs of all that is held ahead, and the list of what is held behind, for all that is drawn."""
    many = sum(item[0] == "draw" for item in way)
    for held in rows_of(machine[0], len(machine[1])):
        yield held, [played_behind(machine, way, held, drawn) for drawn in rows_of(machine[0], many)]


def free_by(machine, registers, way):
    """How many registers at most take all tuples of values equally often, whatever is held ahead."""
    ends = list(all_behind(machine, way))
    for many in range(len(registers), 0, -1):
        for some in itertools.combinations(registers, many):
            if all(even([tuple(own[slot] for slot in some) for own in behind], machine[0] ** many) for _, behind in ends):
                return many
    return 0


def even(values, many):
    counts = {}
    for own in values:
        counts[own] = counts.get(own, 0) + 1
    return len(counts) == many and len(set(counts.values())) == 1


def keeps_by(machine, registers, way):
    return all(sum(own[slot] for slot in registers) % machine[0] == sum(held[slot] for slot in registers) % machine[0]
               for held, behind in all_behind(machine, way) for own in behind)


def with_spot(program, path, way):
    """The program with a WAY put in, by going down to the spot."""
    blocks = list(program[2])
    blocks[path[0]] = at(blocks[path[0]], path[1:], way)
    return program[0], program[1], tuple(blocks)


def at(own, rest, way):
    if len(rest) == 1:
        return own[:rest[0]] + way + own[rest[0]:]
    item = own[rest[0]]
    if item[0] == "one":
        ways = list(item[1])
        ways[rest[1]] = at(ways[rest[1]], rest[2:], way)
        new = ("one", tuple(ways))
    else:
        new = ("many", at(item[1], rest[1:], way))
    return own[:rest[0]] + (new,) + own[rest[0] + 1:]


def ways_in(prefix, way):
    yield prefix, way
    for place, item in enumerate(way):
        if item[0] == "one":
            for number, own in enumerate(item[1]):
                yield from ways_in(prefix + (place, number), own)
        elif item[0] == "many":
            yield from ways_in(prefix + (place,), item[1])


def spots_by(program):
    return sorted(prefix + (place,) for number, block in enumerate(program[2]) for prefix, way in ways_in((number,), block)
                  for place in range(len(way) + 1))


class Ways(unittest.TestCase):

    def test_renewal(self):
        """It renews; beside all that is held and drawn."""
        rng = rng_of(1)
        for _ in range(60):
            machine = random_machine(rng)
            slots = len(machine[1])
            if slots < 3:
                continue
            registers = tuple(sorted(rng.sample(range(slots), rng.randint(2, slots - 1))))
            slot = rng.choice([own for own in range(slots) if own not in registers])
            way = renewal(machine, registers, slot)
            least, wanted = registers[0], []
            for own in registers[1:]:
                wanted += [("draw", slot), ("set", least, tuple(sorted([(least, 1), (slot, 1)]))),
                           ("set", own, tuple(sorted([(own, 1), (slot, machine[0] - 1)])))]
            self.assertEqual(way, (*wanted, ("set", slot, ())))
            self.assertIs(is_way(machine, 0, way), True)
            self.assertTrue(keeps_by(machine, registers, way))
            self.assertIs(keeps_sum(machine, registers, way), True)
            self.assertIs(renews(machine, registers, way), True)
            self.assertEqual(how_free(machine, registers, way), len(registers) - 1)
            self.assertIs(renews(machine, registers, way + way), True)

    def test_line_ways(self):
        """Any line ways, for p 2, 3 and 5."""
        rng, seen, primes = rng_of(2), set(), set()
        for _ in range(400):
            machine = random_machine(rng)
            slots = len(machine[1])
            way = random_way(rng, machine, [], 5, 0, ("set", "set", "draw"))
            if rng.random() < 0.5 and slots > 2:
                base = renewal(machine, (0, 1), 2)
                place = rng.randrange(len(base))
                way = base[:place] + way[:1] + base[place + rng.randint(0, 1):]
            if sum(item[0] == "draw" for item in way) > 4:
                continue
            registers = tuple(sorted(rng.sample(range(slots), rng.randint(2, slots))))
            keeps, free = keeps_by(machine, registers, way), free_by(machine, registers, way)
            self.assertIs(keeps_sum(machine, registers, way), keeps, (machine, registers, way))
            self.assertEqual(how_free(machine, registers, way), free, (machine, registers, way))
            self.assertIs(renews(machine, registers, way), keeps and free == len(registers) - 1)
            seen.add((keeps, free))
            primes.add(machine[0])
        self.assertTrue({(True, 0), (True, 1), (False, 0), (False, 1), (False, 2)} <= seen, seen)
        self.assertEqual(primes, {2, 3, 5})

    def test_errors(self):
        for registers, slot, error, kept in (
                ((0, 4), 1, NoRegister, 4), ((5, 9), 7, NoRegister, 5), ((-1, 0), 1, NoRegister, -1), ((0, 1), 4, NoRegister, 4),
                ((0, 1), -1, NoRegister, -1), ((4,), 0, NoRegister, 4), ((0,), 9, NoRegister, 9), ((0,), 1, Unfit, None),
                ((), 1, Unfit, None), ((0, 1), 1, Unfit, None), ((0,), 0, Unfit, None)):
            for call in (lambda: renewal(four, registers, slot), lambda: renewed(still, (), registers, slot),
                         lambda: helping(still, registers, slot, 1), lambda: harming(still, registers, slot, 1),
                         lambda: fewest_renewals(still, registers, slot, 1, 2)):
                with self.assertRaises(error) as caught:
                    call()
                self.assertEqual(vars(caught.exception), {} if kept is None else {"number": kept})

    def test_errors_of_ways(self):
        good = (("draw", 3),)
        for call in (keeps_sum, renews, how_free):
            for registers, way, error, kept in (
                    ((0, 4), good, NoRegister, 4), ((9,), None, NoRegister, 9), ((0,), good, Unfit, None), ((), good, Unfit, None),
                    ((0, 1), (("call", 0, ()),), Unfit, None), ((0, 1), (("many", ()),), Unfit, None),
                    ((0, 1), (("one", ((), ())),), Unfit, None), ((0, 1), (("draw", 4),), Unfit, None),
                    ((0, 1), (("set", 0, ((4, 1),)),), Unfit, None), ((0, 1), (("set", 9, ()),), Unfit, None),
                    ((0, 1), (("draw", -1),), Unfit, None)):
                with self.assertRaises(error) as caught:
                    call(four, registers, way)
                self.assertEqual(vars(caught.exception), {} if kept is None else {"number": kept})
            call(four, [0, 1], [["draw", 3], ["set", 0, [[0, 1], [3, 1]]]])

    def test_no_way(self):
        self.assertEqual((keeps_sum(four, (0, 1), ()), renews(four, (0, 1), ()), how_free(four, (0, 1), ())), (True, False, 0))


class Spots(unittest.TestCase):

    def test_spots(self):
        rng = rng_of(3)
        for _ in range(120):
            program = clean_program(rng)
            every = spots_by(program)
            self.assertEqual(spots(program), tuple(every))
            self.assertTrue({path for path, _ in items_of(program)} <= set(every))
            way = random_way(rng, program[0], list(range(len(program[2]))), 2, 1)
            path = rng.choice(every)
            self.assertEqual(put_in(program, path, way), with_spot(program, path, way))
            self.assertEqual(put_in(program, list(path), [list(item) for item in way]), with_spot(program, path, way))
        self.assertEqual(spots((small, ((0, 1),), ((),))), ((0, 0),))

    def test_renewed(self):
        rng, told = rng_of(4), 0
        while told < 60:
            program = clean_program(rng)
            slots = len(program[0][1])
            if slots < 3:
                continue
            told += 1
            registers, slot = (0, 1), 2
            every = spots_by(program)
            paths = tuple(sorted(rng.sample(every, rng.randint(0, min(4, len(every))))))
            way, wanted = renewal(program[0], registers, slot), program
            for path in reversed(paths):
                wanted = with_spot(wanted, path, way)
            self.assertEqual(renewed(program, paths, registers, slot), wanted)
            self.assertIs(is_program(wanted), True)
            self.assertEqual(len(items_of(wanted)), len(items_of(program)) + 4 * len(paths))

    def test_no_spot(self):
        way = renewal(four, (0, 1), 3)
        for path in ((0, 2), (), (0,), (1, 0), (-1, 0), (0, -1), (0, True), (0, 0, 0), (10 ** 30, 0)):
            with self.assertRaises(NoItem) as caught:
                put_in(still, path, way)
            self.assertEqual(vars(caught.exception), {"path": path})
            with self.assertRaises(NoItem) as caught:
                renewed(still, ((0, 0), path, (5, 5)), (0, 1), 3)
            self.assertEqual(vars(caught.exception), {"path": path})
        with self.assertRaises(NoItem):
            renewed(still, ((0, 9),), (0,), 3)
        with self.assertRaises(NoRegister):
            renewed(still, ((0, 9),), (0, 1), 4)
        with self.assertRaises(Unfit):
            renewed(still, ((0, 1),), (0,), 3)

    def test_unfit_ways(self):
        for way in ((("draw", 4),), (("call", 1, ()),), (("set", 0, ((0, 2),)),), ((),), (None,), (("one", ((),)),), ("draw", 0)):
            with self.assertRaises(Unfit) as caught:
                put_in(still, (0, 0), way)
            self.assertEqual(vars(caught.exception), {})
            with self.assertRaises(NoItem):
                put_in(still, (0, 5), way)
        self.assertEqual(put_in(still, (0, 1), ()), still)
        self.assertEqual(put_in(deep, (1, 0, 0, 1), (("call", 0, (1,)),))[2][1][0][1][0], (("set", 2, ()), ("call", 0, (1,))))


class Helping(unittest.TestCase):

    def programs(self, seed, many):
        """Line ways, and rounds, over parts and a copy, with a register that is not in them."""
        rng = rng_of(seed)
        yield from ((own, (0, 1), 3) for own in (over, still))
        for _ in range(many):
            sorts = rng.choice((plain, (("put", 1),), (("turn", 1),), (("put", 1), ("turn", 2))))
            way = random_way(rng, (2, (None,) * 3, sorts), [], 4, 1, ("set", "set", "set", "draw", "many", "one"))
            program = ((2, (None,) * 4, sorts), ((0, 1),), (way,))
            yield program, rng.choice(((0, 1), (0, 1), (1, 2), (0, 1, 2))), 3

    def test_helping(self):
        """Each spot tried out."""
        helped = harmed = 0
        for program, registers, slot in self.programs(5, 40):
            way = renewal(program[0], registers, slot)
            for most in (0, 1, 2):
                stands = withstands(program, most)
                known = {path: withstands(with_spot(program, path, way), most) for path in spots_by(program)}
                good = () if stands else tuple(path for path in known if known[path])
                bad = tuple(path for path in known if not known[path]) if stands else ()
                self.assertEqual(helping(program, registers, slot, most), good)
                self.assertEqual(harming(program, registers, slot, most), bad)
                helped += bool(good)
                harmed += bool(bad)
        self.assertGreater(helped, 2)
        self.assertGreater(harmed, 5)

    def test_fewest(self):
        """All sets of spots, fewest first."""
        found = {}
        for program, registers, slot in self.programs(6, 25):
            every, way = spots_by(program), renewal(program[0], registers, slot)
            for most, many in ((1, 0), (1, 1), (1, 2), (2, 2), (0, 3)):
                sets = [own for size in range(many + 1) for own in itertools.combinations(every, size)]
                if len(sets) > 200:
                    with self.assertRaises(TooMany) as caught:
                        fewest_renewals(program, registers, slot, most, many)
                    self.assertEqual(vars(caught.exception), {})
                    continue
                if len(sets) > 40:
                    continue
                wanted = None
                for own in sets:
                    tried = program
                    for path in reversed(own):
                        tried = with_spot(tried, path, way)
                    if withstands(tried, most):
                        wanted = own
                        break
                self.assertEqual(fewest_renewals(program, registers, slot, most, many), wanted)
                key = None if wanted is None else len(wanted)
                found[key] = found.get(key, 0) + 1
        self.assertTrue({None, 0, 1} <= set(found), found)

    def test_bounds(self):
        """200 sets of spots, and more."""
        def of(many):
            return four, ((0, 1),), ((("set", 2, ((0, 1), (1, 1))),) * (many - 1),)
        self.assertIsNone(fewest_renewals(of(19), (0, 1), 3, 1, 2))
        with self.assertRaises(TooMany):
            fewest_renewals(of(20), (0, 1), 3, 1, 2)
        self.assertIsNone(fewest_renewals(of(10), (0, 1), 3, 1, 3))
        with self.assertRaises(TooMany):
            fewest_renewals(of(11), (0, 1), 3, 1, 3)
        self.assertIsNone(fewest_renewals(of(40), (0, 1), 3, 1, 1))
        self.assertEqual(fewest_renewals(of(40), (0, 1), 3, 0, 1), ())
        with self.assertRaises(TooMany):
            fewest_renewals(of(40), (0, 1), 3, 0, 2)
        with self.assertRaises(Unfit):
            fewest_renewals(of(40), (0, 1), 1, 0, 2)

    def test_guarantee(self):
        """A TELLING behind putting in renewals without marks of theirs is one of the PROGRAM."""
        rng, kept, lost = rng_of(7), 0, 0
        for _ in range(60):
            machine = (2, (None,) * 4, rng.choice((plain, (("put", 1), ("turn", 1)))))
            way = random_way(rng, (2, (None,) * 3, plain), [], 4, 0, ("set", "set", "set", "draw"))
            program = (machine, ((0, 1),), (way,))
            paths = tuple((0, place) for place in range(len(way) + 1) if rng.random() < 0.4)
            own = renewed(program, paths, (0, 1), 3)
            moved = [number + 4 * sum(path[1] <= number for path in paths) for number in range(len(way))]
            lines = Play(program, ()).lines
            if count_terms(program, lines) > 600:
                continue
            for terms in all_terms(program, lines):
                behind = tuple(((moved[mark[0]], *mark[1:]), residue) for mark, residue in terms)
                before = is_telling(program, ((), terms))
                if is_telling(own, ((), behind)):
                    self.assertTrue(before, (program, paths, terms))
                    kept += 1
                else:
                    lost += before
        self.assertGreater(kept, 20)
        self.assertGreater(lost, 20)

    def test_examples_of_others(self):
        self.assertEqual(helping(bus, (0, 1), 2, 0), ())
        self.assertEqual(harming(turned, (0, 1, 2), 3, 2), ())
        self.assertEqual(harming(mask, (0, 1), 2, 6), ())
        self.assertEqual(renewed(deep, (), (0, 1), 2), deep)


if __name__ == "__main__":
    unittest.main()
