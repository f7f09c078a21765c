"""[19]: free items, orders, registers merged and laid, beside what all small RUNS write and wait for."""

import itertools
import unittest

from anydlooks.errors import CanNot, NoBlock, NoBus, NoItem, NoRegister, TooMany, Unfit
from anydlooks.least import least_price
from anydlooks.places import (
    are_free, best_laid, best_orders, clash, in_order, is_clash, laid, merged, merged_prices, orders, swapped,
)
from anydlooks.programs import is_clean, is_program, items_of, replaced
from reckon import Play, clean_program, rng_of, things_like, way_runs
from samples import bus, deep, four, hum, late, pair, plain, renew, small, turned
from whole import Naive

WORDS = ("set", "set", "set", "draw", "call", "call", "one", "many")


def touched(program, item):
    """What the item can write and read, gone over again and again."""
    table = [(set(), set()) for _ in program[2]]

    def of_item(own):
        if own[0] == "set":
            return {own[1]}, {slot for slot, _ in own[2]}
        if own[0] == "draw":
            return {own[1]}, set()
        if own[0] == "call":
            return table[own[1]][0] | set(own[2]), table[own[1]][1] | set(own[2])
        ways = own[1] if own[0] == "one" else [own[1]]
        found = [of_item(more) for way in ways for more in way]
        return set().union(*[more[0] for more in found]), set().union(*[more[1] for more in found])

    for _ in range(12):
        table = [of_item(("many", way)) for way in program[2]]
    return of_item(item)


def free_by(program, one, other):
    (writes, reads), (more, less) = touched(program, one), touched(program, other)
    return not writes & (more | less) and not more & reads


def orders_by(program, block):
    """Exchanges of free neighbours, until nothing is new."""
    way = program[2][block]
    found = {tuple(range(len(way)))}
    while True:
        more = {own[:k] + (own[k + 1], own[k]) + own[k + 2:] for own in found for k in range(len(own) - 1)
                if free_by(program, way[own[k]], way[own[k + 1]])} | found
        if more == found:
            return sorted(found)
        found = more


def price_to(program, most):
    price = least_price(program)
    return None if price is None or price > most else price


def waits(lines, slot, number, later):
    """Whether the register waits behind the LINE number (-1: at the beginning) for the LINE later."""
    line, start = lines[later], later
    if line[0] == "back" and line[1] == slot:
        start = line[2]
    elif line[0] != "set" or slot not in dict(line[2]):
        return False
    return number < start and not any(own[1] == slot for own in lines[number + 1:start])


def clashes(program, run, slot, other):
    """All CLASHES of one RUN."""
    lines, parts = Play(program, run).lines, [own for sharing in program[1] for own in sharing]
    found = []
    for later in range(len(lines)):
        if slot in parts and waits(lines, other, -1, later):
            found.append((run, None, later))
        for number, line in enumerate(lines):
            for one, two in ((slot, other), (other, slot)):
                if line[1] == one and waits(lines, two, number, later):
                    found.append((run, number, later))
    return found


def merged_by(program, slot, other):
    (prime, buses, sorts), dealt, blocks = program
    names = {own: own - (own > other) for own in range(len(buses))}
    names[other] = names[slot]

    def of_way(way):
        return tuple(of_item(item) for item in way)

    def of_item(item):
        if item[0] == "set":
            factors = {}
            for own, factor in item[2]:
                factors[names[own]] = (factors.get(names[own], 0) + factor) % prime
            return "set", names[item[1]], tuple(sorted((own, factor) for own, factor in factors.items() if factor))
        if item[0] == "draw":
            return "draw", names[item[1]]
        if item[0] == "call":
            return "call", item[1], tuple(sorted({names[own] for own in item[2]}))
        return ("one", tuple(of_way(way) for way in item[1])) if item[0] == "one" else ("many", of_way(item[1]))

    lying = [own for k, own in enumerate(buses) if k != other]
    return ((prime, packed(lying), sorts), tuple(tuple(names[own] for own in parts) for parts in dealt),
            tuple(of_way(way) for way in blocks))


def packed(lying):
    left = sorted({own for own in lying if own is not None})
    return tuple(None if own is None else left.index(own) for own in lying)


def small_runs(program, lines=6):
    return [run for run, _ in way_runs(program[2], program[2][0], lines, 6, 3)]


class Orders(unittest.TestCase):

    def test_free(self):
        rng, free = rng_of(1), 0
        for _ in range(150):
            program = clean_program(rng, words=WORDS)
            items = dict(items_of(program))
            for path, item in items.items():
                following = items.get((*path[:-1], path[-1] + 1))
                if following is None:
                    for call in (are_free, swapped):
                        with self.assertRaises(NoItem) as caught:
                            call(program, path)
                        self.assertEqual(vars(caught.exception), {"path": path})
                    continue
                wanted = free_by(program, item, following)
                self.assertIs(are_free(program, path), wanted)
                free += wanted
                if not wanted:
                    with self.assertRaises(CanNot) as caught:
                        swapped(program, path)
                    self.assertEqual(vars(caught.exception), {})
                    continue
                one = replaced(replaced(program, (*path[:-1], path[-1] + 1), (item,)), path, (following,))
                self.assertEqual(swapped(program, path), one)
        self.assertGreater(free, 60)

    def test_nothing_written_changes(self):
        """The multiset of what is written, and what lies there in the end, over all small RUNS."""
        rng, tried = rng_of(2), 0
        while tried < 60:
            program = clean_program(rng, words=("set", "set", "set", "call", "one", "many"))
            items = items_of(program)
            free = [path for path, _ in items if self.can_swap(program, path)]
            # Draws exchanged take their values in another order.
            if not free or any(item[0] == "draw" for _, item in items):
                continue
            tried += 1
            own, values = swapped(program, rng.choice(free)), [rng.randrange(program[0][0]) for _ in range(9)]
            told = [sorted((sorted(zip([line[1] for line in play.lines], play.wrote)), tuple(play.slots))
                           for play in [Play(each, run, values) for run in small_runs(each)]) for each in (program, own)]
            self.assertEqual(told[0], told[1], program)

    def can_swap(self, program, path):
        try:
            return are_free(program, path)
        except NoItem:
            return False

    def test_orders(self):
        rng, many, told = rng_of(3), {}, 0
        while told < 60:
            program = clean_program(rng, size=5, words=WORDS)
            block = rng.randrange(len(program[2]))
            wanted = orders_by(program, block) if len(program[2][block]) <= 5 else []
            if not 1 <= len(wanted) <= 24:
                continue
            told += 1
            many[len(wanted)] = many.get(len(wanted), 0) + 1
            self.assertEqual(orders(program, block), wanted)
            for own in wanted:
                way = tuple(program[2][block][place] for place in own)
                self.assertEqual(in_order(program, block, own), (*program[:2], program[2][:block] + (way,) + program[2][block + 1:]))
            if len(wanted) > 8:
                continue
            for most in (0, 1, 3):
                prices = [price_to(in_order(program, block, own), most) for own in wanted]
                best = None if None in prices else max(prices)
                self.assertEqual(best_orders(program, block, most), (best, [own for own, more in zip(wanted, prices) if more == best]))
        self.assertGreater(len(many), 4)

    def test_best_beside_naive_tables(self):
        for program in (late, pair, hum, bus):
            for most in (0, 1, 2):
                prices = []
                for own in orders(program, 0):
                    told = Naive(in_order(program, 0, own), most).told()
                    prices.append(min(told.values()) if told else None)
                self.assertEqual(best_orders(program, 0, most)[0], None if None in prices else max(prices))

    def test_too_many(self):
        def of(many):
            return (2, (None,) * 5, plain), ((0, 1),), (tuple(("draw", slot) for slot in range(many)), )
        self.assertEqual(orders(of(4), 0), list(itertools.permutations(range(4))))
        self.assertEqual(len(best_orders(of(4), 0, 1)[1]), 24)
        for call in (lambda: orders(of(5), 0), lambda: best_orders(of(5), 0, 1)):
            with self.assertRaises(TooMany) as caught:
                call()
            self.assertEqual(vars(caught.exception), {})
        # 30 and 20 orders: two rows of what is not free of one another.
        for ones, more in (((0, 0), 15), ((0, 0, 0), 20), ((0, 0, 0, 0), 35)):
            way = tuple(("draw", slot) for slot in (*ones, *([1] * (len(ones) if len(ones) < 4 else 3))))
            way = way if more != 15 else (("draw", 0),) * 2 + (("draw", 1),) * 4
            program = ((2, (None,) * 2, plain), ((0, 1),), (way,))
            if more <= 24:
                self.assertEqual(len(orders(program, 0)), more)
            else:
                with self.assertRaises(TooMany):
                    orders(program, 0)
        # One more than 24.
        way = (("set", 3, ((0, 1),)), ("set", 4, ((0, 1), (1, 1))), ("set", 2, ()), ("set", 4, ((4, 1),)), ("set", 1, ((2, 1),)))
        program = ((2, (None,) * 5, plain), ((0, 1),), (way,))
        self.assertEqual(len(orders_by(program, 0)), 25)
        with self.assertRaises(TooMany):
            orders(program, 0)
        empty = (small, ((0, 1),), ((),))
        self.assertEqual((orders(empty, 0), best_orders(empty, 0, 6)), ([()], (None, [()])))

    def test_errors(self):
        for block in (2, -1, 10 ** 30):
            for call in (lambda: orders(deep, block), lambda: in_order(deep, block, (0,)), lambda: best_orders(deep, block, 2)):
                with self.assertRaises(NoBlock) as caught:
                    call()
                self.assertEqual(vars(caught.exception), {"number": block})
        for path in ((0, 1), (1, 0, 0, 0), (1, 0, 2, 0), (), (0,), (5, 0), (0, -1), (1, 0, 1, 3), (1, 0, 1, 10 ** 30), (False, 0)):
            for call in (are_free, swapped):
                with self.assertRaises(NoItem) as caught:
                    call(deep, list(path))
                self.assertEqual(vars(caught.exception), {"path": path})


class Merged(unittest.TestCase):

    def pairs(self, program):
        parts = [own for sharing in program[1] for own in sharing]
        slots = range(len(program[0][1]))
        return [(slot, other) for slot in slots for other in slots if slot != other and other not in parts]

    def test_clash(self):
        """Beside all clashes of small RUNS."""
        rng, found, none = rng_of(4), 0, 0
        for _ in range(70):
            program = clean_program(rng, words=WORDS, size=4)
            runs = small_runs(program, 7)
            for slot, other in self.pairs(program):
                own = clash(program, slot, other)
                every = [more for run in runs for more in clashes(program, run, slot, other)]
                if own is None:
                    self.assertEqual(every, [], (program, slot, other))
                    none += 1
                    continue
                found += 1
                self.assertIn(own, clashes(program, own[0], slot, other), (program, slot, other))
                self.assertIs(is_clash(program, slot, other, own), True)
                for run in rng.sample(runs, min(3, len(runs))):
                    good = clashes(program, run, slot, other)
                    many = len(Play(program, run).lines)
                    for thing in [(run, number, later) for number in [None, *range(many + 1)] for later in range(many + 1)]:
                        self.assertIs(is_clash(program, slot, other, thing), thing in good, (program, slot, other, thing))
        self.assertGreater(found, 50)
        self.assertGreater(none, 40)

    def test_rounds_of_calls(self):
        """Registers written, or not, in calls within calls, and rounds of them."""
        rng, told = rng_of(14), {True: 0, False: 0}

        def line():
            slot = rng.randrange(2, 4)
            return ("draw", slot) if rng.random() < 0.3 else ("set", slot, ((rng.randrange(4), 1),))

        def call(block):
            return "call", block, rng.choice(((), (2,), (3,), (2, 3)))
        for _ in range(25):
            last = tuple(line() for _ in range(rng.randint(1, 3)))
            inner = tuple(rng.choice((line(), call(2))) for _ in range(rng.randint(1, 3)))
            first = rng.choice(((("many", (call(1), line())), line()), (("many", (call(2), call(1))), call(1)),
                                (line(), call(1), line()), (call(1), ("many", (line(), call(2))), ("many", (call(2),)))))
            program = (four, ((0, 1),), (first, (*inner, call(2)), last))
            for run, _ in way_runs(program[2], first, 18, 2, 4)[-2:]:
                for slot, other in ((2, 3), (3, 2), (0, 2), (1, 3)):
                    good, many = clashes(program, run, slot, other), len(Play(program, run).lines)
                    for number in [None, *range(many)]:
                        for later in range(many):
                            thing = (run, number, later)
                            self.assertIs(is_clash(program, slot, other, thing), thing in good, (program, slot, other, thing))
                            told[thing in good] += 1
        self.assertGreater(min(told.values()), 300)

    def test_rounds_of_lines(self):
        """Registers written, or not, ahead of rounds, in them and behind them."""
        rng, told = rng_of(15), {True: 0, False: 0}

        def some(least, most):
            return tuple(("set", rng.choice((1, 2, 3, 3)), ((rng.choice((0, 2, 2, 3)), 1),)) for _ in range(rng.randint(least, most)))
        for _ in range(120):
            program = (four, ((0, 1),), ((*some(0, 4), ("many", some(1, 3)), *some(0, 2)),))
            times = rng.randint(1, 3)
            good = {pair: clashes(program, (times,), *pair) for pair in ((2, 3), (3, 2), (0, 2), (1, 3))}
            many = len(Play(program, (times,)).lines)
            for (slot, other), own in good.items():
                for thing in [((times,), number, later) for number in [None, *range(many)] for later in range(many)]:
                    self.assertIs(is_clash(program, slot, other, thing), thing in own, (program, slot, other, thing))
                    told[thing in own] += 1
        self.assertGreater(min(told.values()), 300)

    def test_put_back_first(self):
        """A put back that is LINE 0, as the block called writes nothing."""
        program = (four, ((0, 1),), ((("call", 1, (2,)), ("set", 1, ((2, 1),))), ()))
        self.assertIs(is_clash(program, 0, 2, ((), None, 0)), True)
        self.assertIs(is_clash(program, 0, 2, ((), None, 1)), False)
        self.assertEqual(clash(program, 0, 2), ((), None, 0))

    def test_merged(self):
        """What is apart is merged: all that is written stays."""
        rng, tried = rng_of(5), 0
        while tried < 80:
            program = clean_program(rng, words=WORDS, size=4)
            for slot, other in self.pairs(program):
                if clash(program, slot, other) is not None:
                    with self.assertRaises(CanNot) as caught:
                        merged(program, slot, other)
                    self.assertEqual(vars(caught.exception), {})
                    continue
                tried += 1
                own = merged(program, slot, other)
                self.assertEqual(own, merged_by(program, slot, other))
                self.assertTrue(is_program(own) and is_clean(own))
                both = any(item[0] == "call" and slot in item[2] and other in item[2] for _, item in items_of(program))
                for run in small_runs(program)[:12]:
                    values = [rng.randrange(program[0][0]) for _ in range(20)]
                    if not both:
                        self.assertEqual(Play(own, run, values).wrote, Play(program, run, values).wrote, (program, slot, other, run))

    def test_two_put_backs(self):
        """Of two put backs behind one call one goes."""
        program = ((2, (None, None, 0, 1), plain), ((0, 1),), ((("call", 1, (2, 3)),), (("set", 0, ((1, 1),)),)))
        self.assertEqual(merged(program, 2, 3), ((2, (None, None, 0), plain), ((0, 1),), ((("call", 1, (2,)),), program[2][1])))
        self.assertEqual(merged(program, 3, 2)[0][1], (None, None, 0))
        self.assertEqual(merged(program, 3, 2)[2][0], (("call", 1, (2,)),))

    def test_merged_prices(self):
        rng = rng_of(6)
        for _ in range(25):
            program = clean_program(rng, words=WORDS, size=4)
            for most in (0, 2):
                wanted = [(both, price_to(merged(program, *both), most)) for both in self.pairs(program) if clash(program, *both) is None]
                self.assertEqual(merged_prices(program, most), wanted)
        self.assertEqual(merged_prices(pair, 1), [((0, 2), None), ((0, 3), 1), ((1, 3), None), ((2, 3), 1), ((3, 2), 1)])

    def test_sums(self):
        """In a sum with both RESIDUES are added, and 0 is left out."""
        for prime, one, other, wanted in ((2, 1, 1, ()), (3, 1, 1, ((2, 2),)), (3, 1, 2, ()), (5, 4, 3, ((2, 2),))):
            program = ((prime, (None,) * 4, plain), ((0, 1),), ((("set", 2, ((2, one), (3, other))),),))
            self.assertIsNotNone(clash(program, 0, 2))
            self.assertEqual(merged(program, 2, 3)[2], ((("set", 2, wanted),),))

    def test_long_runs(self):
        """A CLASH of a RUN gone round very often."""
        way = (("set", 2, ((0, 1),)), ("set", 3, ((1, 1),)), ("set", 2, ((3, 1),)))
        program = (four, ((0, 1),), ((("many", way), ("set", 0, ((2, 1),)), ("call", 1, (3,))), (("set", 1, ()),)))
        times = 10 ** 15
        run = (times,)
        self.assertIs(is_clash(program, 2, 3, (run, 3 * times - 2, 3 * times - 1)), False)
        self.assertIs(is_clash(program, 2, 3, (run, 3 * times - 1, 3 * times + 2)), True)
        self.assertIs(is_clash(program, 2, 3, (run, 3 * times - 1, 3 * times + 1)), False)
        self.assertIs(is_clash(program, 0, 2, (run, None, 3 * times)), False)
        self.assertIs(is_clash(program, 0, 2, ((0,), None, 0)), True)
        self.assertIs(is_clash(program, 1, 2, (run, 3 * times + 1, 3 * times)), False)
        self.assertIs(is_clash(program, 1, 3, (run, 3 * times + 1, 3 * times + 2)), False)
        self.assertIs(is_clash(program, 0, 3, (run, 3 * times, 3 * times + 2)), True)
        self.assertIs(is_clash(program, 0, 3, (run, 3 * times - 3, 3 * times - 1)), False)
        # What is read last in each round is written there, too.
        program = (four, ((0, 1),), ((("many", (("set", 3, ((0, 1),)), ("set", 2, ((2, 1),)))),),))
        for number in range(0, 10, 2):
            for later in range(1, 10, 2):
                self.assertIs(is_clash(program, 2, 3, ((5,), number, later)), later == number + 1)

    def test_things(self):
        for program, slot, other in ((pair, 1, 2), (deep, 0, 2), (turned, 0, 3)):
            own = clash(program, slot, other)
            self.assertIsNotNone(own)
            for thing in things_like(own):
                wanted = type(thing) is tuple and len(thing) == 3 and type(thing[0]) is tuple
                wanted = wanted and all(type(more) is int and 0 <= more for more in thing[0])
                wanted = wanted and type(thing[2]) is int and (thing[1] is None or type(thing[1]) is int)
                try:
                    # What is gone round very often clashes as if it were gone round some times.
                    tried = (tuple(min(more, 9) for more in thing[0]), *thing[1:]) if wanted else None
                    wanted = wanted and tried in clashes(program, tried[0], slot, other)
                except (IndexError, AssertionError):
                    wanted = False
                self.assertIs(is_clash(program, slot, other, thing), wanted, thing)
        self.assertIs(is_clash(renew, 3, 4, ((), 0, 2)), False)

    def test_errors(self):
        calls = (lambda *own: clash(pair, *own), lambda *own: is_clash(pair, *own, None), lambda *own: merged(pair, *own))
        for slot, other, wanted in ((4, 4, 4), (-1, 9, -1), (0, 10 ** 30, 10 ** 30), (4, 1, 4), (2, -1, -1)):
            for call in calls:
                with self.assertRaises(NoRegister) as caught:
                    call(slot, other)
                self.assertEqual(vars(caught.exception), {"number": wanted})
        for slot, other in ((2, 2), (0, 0), (0, 1), (2, 1), (3, 0)):
            for call in calls:
                with self.assertRaises(Unfit) as caught:
                    call(slot, other)
                self.assertEqual(vars(caught.exception), {})


class Laid(unittest.TestCase):

    def test_laid(self):
        rng = rng_of(7)
        for _ in range(80):
            program = clean_program(rng)
            lying = program[0][1]
            count = len({own for own in lying if own is not None})
            for slot in range(len(lying)):
                for own in [None, *range(count + 1)]:
                    wanted = packed(lying[:slot] + (own,) + lying[slot + 1:])
                    found = laid(program, slot, own)
                    self.assertEqual(found, ((program[0][0], wanted, program[0][2]), *program[1:]))
                    self.assertIs(is_program(found), True)
                for own in (count + 1, -1, 10 ** 30):
                    with self.assertRaises(NoBus) as caught:
                        laid(program, slot, own)
                    self.assertEqual(vars(caught.exception), {"number": own})
            for slot in (len(lying), -1):
                with self.assertRaises(NoRegister) as caught:
                    laid(program, slot, 99)
                self.assertEqual(vars(caught.exception), {"number": slot})
        self.assertEqual(laid(hum, 0, 1)[0][1], (1, 0, 0))
        self.assertEqual(laid(laid(hum, 1, 1), 2, 1)[0][1], (None, 0, 0))

    def layings(self, lying, many):
        """All ways to lay, numbered as the buses are first met."""
        found, on = set(), [k for k, own in enumerate(lying) if own is not None]
        for choice in itertools.product(range(min(many, len(on))), repeat=len(on)):
            names, own = {}, list(lying)
            for slot, bus_number in zip(on, choice):
                own[slot] = names.setdefault(bus_number, len(names))
            found.add(tuple(own))
        return sorted(found, key=lambda own: [-1 if more is None else more for more in own])

    def test_best_laid(self):
        rng, told, spread = rng_of(8), 0, {}
        while told < 40:
            program = clean_program(rng, words=("set", "set", "set", "draw", "one", "many"), size=4)
            for many in (1, 2, 10 ** 6):
                ways, lying = self.layings(program[0][1], many), program[0][1]
                size = max(program[0][0] ** (len(lying) + len({more for more in own if more is not None})) for own in ways)
                if len(ways) > 15 or size > 32:
                    with self.assertRaises(TooMany) as caught:
                        best_laid(program, many, 2)
                    self.assertEqual(vars(caught.exception), {})
                    continue
                told += 1
                spread[len(ways)] = spread.get(len(ways), 0) + 1
                for most in (0, 2):
                    prices = [price_to(((program[0][0], own, program[0][2]), *program[1:]), most) for own in ways]
                    best = None if None in prices else max(prices)
                    wanted = best, [own for own, more in zip(ways, prices) if more == best]
                    self.assertEqual(best_laid(program, many, most), wanted)
        self.assertGreater(len(spread), 1)

    def test_bounds(self):
        """15 ways and more; 32 ASKINGS and more."""
        def of(lying):
            return (2, lying, plain), ((0, 1),), ((("set", 0, ((1, 1),)),),)
        self.assertEqual(len(best_laid(of((0, 0, 0)), 2, 0)[1]), 4)
        for lying, many, good in (((0, 0, 0), 3, False), ((0, 0, 0), 2, True), ((0, 0, 0, 0), 1, True), ((0, 0, 0, 0), 2, False),
                                  ((0,) * 5, 1, False), ((None,) * 5, 7, True), ((0, None, None, None), 9, True)):
            if good:
                best_laid(of(lying), many, 1)
            else:
                with self.assertRaises(TooMany):
                    best_laid(of(lying), many, 1)
        self.assertEqual(best_laid(turned, 3, 3), (2, [(None,) * 4]))


if __name__ == "__main__":
    unittest.main()
