"""[20]: blocks in one another's place, beside mended prices reckoned one by one, and HOSTS tried out."""

import itertools
import unittest

from anydlooks.errors import CanNot, NoBlock, TooMany
from anydlooks.exchange import (
    alike_blocks, first_less, host_against, hosted, is_host, is_host_against, may_stand, mended, nowhere_less, stand_pairs,
)
from anydlooks.forms import is_mark, shown, sources
from anydlooks.least import cheapest_telling, least_price, least_telling
from anydlooks.moves import full_view
from anydlooks.pieces import is_table, price_in
from anydlooks.programs import is_clean, is_program
from anydlooks.prices import least_told_price
from anydlooks.residues import rank
from anydlooks.wide import Wide, is_wide
from predicates import machine as is_machine_by
from predicates import program as is_program_by
from reckon import Play, clean_program, length_of, price as price_by, random_way, rng_of, rows_of, things_like, way_runs
from samples import bus, deep, host, meet, plain, small, thrice, tiny
from whole import Naive, tellings

MANY = 200


def without_read(rng, most_askings=16, **more):
    while True:
        program = clean_program(rng, **more)
        sorts = dict(program[0][2])
        if "read" not in sorts and program[0][0] ** length_of(program[0]) <= most_askings:
            return program


def least_tables(program):
    return Naive(program, MANY).least()


def mended_by(program, table):
    """The definition, for each pair of ASKINGS by all ENTRIES."""
    (prime, lying, sorts), slots = program[0], len(program[0][1])
    prices, found, buses = dict(sorts), {}, range(slots, length_of(program[0]))
    every = rows_of(prime, length_of(program[0]))
    for (near, far), own in table.items():
        if any(far[b] for b in buses) and "pass" not in prices:
            continue
        for ahead in every:
            if ahead[:slots] != near[:slots]:
                continue
            put_ahead = sum(ahead[b] != near[b] for b in buses)
            for behind in every:
                if far[:slots] != behind[:slots] or any(far[b] and not behind[b] for b in buses):
                    continue
                puts = put_ahead + sum(far[b] != behind[b] for b in buses)
                if puts and "put" not in prices:
                    continue
                cost = own + puts * prices.get("put", 0) + sum(far[b] != 0 for b in buses) * prices.get("pass", 0)
                found[ahead, behind] = min(cost, found.get((ahead, behind), cost))
    return found


def less_by(one, other):
    return sorted((*key, own) for key, own in other.items() if key not in one or own < one[key])


def random_host(rng, program, most, size=3):
    """A HOST of at most so many ASKINGS."""
    (prime, lying, sorts), _, _ = program
    while True:
        own, count = list(lying), len({more for more in lying if more is not None})
        for _ in range(rng.randint(0, 4)):
            own.append(rng.choice([None, None, *range(count + 1)]))
            count = len({more for more in own if more is not None})
        if prime ** (len(own) + count) > most:
            continue
        machine, slots = (prime, tuple(own), sorts), list(range(len(own)))
        rng.shuffle(slots)
        dealt = [tuple(sorted(slots[:2]))]
        if len(slots) > 4 and rng.random() < 0.4:
            dealt.append(tuple(sorted(slots[2:5])))
        ways = [random_way(rng, machine, [], size, 0, ("set", "set", "set", "draw")) for _ in range(2)]
        return machine, tuple(dealt), *ways


def hosted_by(program, own, block):
    order, seen = [block], {block}
    todo = [block]
    while todo:
        for item in all_items(program[2][todo.pop()]):
            if item[0] == "call" and item[1] not in seen:
                seen.add(item[1])
                todo.append(item[1])
    order += sorted(seen - {block})

    def renumbered(item):
        if item[0] == "call":
            return "call", order.index(item[1]) + 1, item[2]
        if item[0] == "one":
            return "one", tuple(tuple(renumbered(more) for more in way) for way in item[1])
        if item[0] == "many":
            return "many", tuple(renumbered(more) for more in item[1])
        return item
    ways = [tuple(renumbered(item) for item in program[2][number]) for number in order]
    return own[0], own[1], (own[2] + (("call", 1, ()),) + own[3], *ways)


def all_items(way):
    for item in way:
        yield item
        for inner in (item[1] if item[0] == "one" else [item[1]] if item[0] == "many" else []):
            yield from all_items(inner)


def is_host_by(program, thing):
    if type(thing) is not tuple or len(thing) != 4 or not is_machine_by(thing[0]):
        return False
    (prime, lying, sorts), slots = thing[0], len(program[0][1])
    if (prime, sorts) != (program[0][0], program[0][2]) or lying[:slots] != program[0][1]:
        return False
    if not is_program_by((thing[0], thing[1], (thing[2], thing[3]))):
        return False
    return all(item[0] in ("set", "draw") for item in thing[2] + thing[3])


def lesser(one, other):
    """Whether a least price is less than another one, None being above all."""
    return one is not None and (other is None or one < other)


class Mended(unittest.TestCase):

    def test_mended(self):
        rng, tried, low, none = rng_of(1), 0, 0, 0
        while tried < 40:
            program = without_read(rng, size=3)
            if len(program[2]) == 1 and tried % 4:
                continue
            tried += 1
            tables = [mended_by(program, own) for own in least_tables(program)]
            for number, own in enumerate(tables):
                found = mended(program, number)
                self.assertEqual(found, tuple(sorted((*key, more) for key, more in own.items())), program)
                self.assertIs(is_table(program[0], MANY, found), True)
            numbers = range(len(tables))
            pairs = [(one, two) for one in numbers for two in numbers if not less_by(tables[one], tables[two])]
            for one, two in itertools.product(numbers, numbers):
                wanted = less_by(tables[one], tables[two])
                self.assertIs(may_stand(program, one, two), not wanted)
                self.assertEqual(first_less(program, one, two), wanted[0] if wanted else None)
                low += bool(wanted)
                none += bool(wanted) and wanted[0][:2] not in tables[one]
            self.assertEqual(stand_pairs(program), tuple(own for own in pairs if own[0] != own[1]))
            alike = sorted({tuple(two for two in numbers if (one, two) in pairs and (two, one) in pairs) for one in numbers})
            self.assertEqual(alike_blocks(program), alike)
            self.assertEqual([number for own in alike for number in own].__len__(), len(tables))
        self.assertGreater(low, 20)
        self.assertGreater(none, 10)

    def test_nowhere_less(self):
        """With any sorts, by the least tables alone."""
        rng, truths = rng_of(2), {True: 0, False: 0}
        while min(truths.values()) < 6:
            program = clean_program(rng, size=3)
            if program[0][0] ** length_of(program[0]) > 9 or len(program[2]) == 1:
                continue
            tables = least_tables(program)
            for one, two in itertools.product(range(len(tables)), repeat=2):
                wanted = not less_by(tables[one], tables[two])
                self.assertIs(nowhere_less(program, one, two), wanted, (program, one, two))
                if one != two:
                    truths[wanted] += 1

    def test_without_buses(self):
        """Mended prices are those of the least table then."""
        rng = rng_of(3)
        for _ in range(20):
            program = without_read(rng, size=3)
            program = (program[0][0], (None,) * len(program[0][1]), program[0][2]), *program[1:]
            for number, table in enumerate(least_tables(program)):
                self.assertEqual(mended(program, number), tuple(sorted((*key, own) for key, own in table.items())))

    def test_sorts_that_lack(self):
        """Without "put" nothing is mended; without "pass" no bus is asked behind."""
        for sorts, wanted in (((("pass", 4),), None), ((("put", 7),), 7), ((("pass", 4), ("put", 7)), 7), ((("turn", 1),), None)):
            program = ((2, (0, 0), sorts), ((0, 1),), ((),))
            self.assertEqual(price_in(mended(program, 0), (0, 0, 1), (0, 0, 0)), wanted)
            behind = {"pass": 4}.get(sorts[0][0])
            self.assertEqual(price_in(mended(program, 0), (0, 0, 1), (0, 0, 1)), None if behind is None and wanted is None else
                             4 if behind else 14)
            self.assertEqual(price_in(mended(program, 0), (0, 0, 0), (0, 0, 1)), wanted)

    def test_errors(self):
        two = (lambda program, *own: may_stand(program, *own), lambda program, *own: first_less(program, *own),
               lambda program, *own: host_against(program, *own), lambda program, *own: nowhere_less(program, *own),
               lambda program, *own: is_host_against(program, *own, None))
        for block in (4, -1, 10 ** 30):
            for program in (meet, (meet[0][:2] + ((("read", 1),),), *meet[1:])):
                for call in two:
                    for pair in ((block, 9), (block, 0), (0, block)):
                        with self.assertRaises(NoBlock) as caught:
                            call(program, *pair)
                        self.assertEqual(vars(caught.exception), {"number": block})
                for call in (mended, lambda program, own: hosted(program, host, own)):
                    with self.assertRaises(NoBlock) as caught:
                        call(program, block)
                    self.assertEqual(vars(caught.exception), {"number": block})
        for call in (lambda: mended(thrice, 0), lambda: may_stand(thrice, 0, 0), lambda: first_less(thrice, 0, 0),
                     lambda: stand_pairs(thrice), lambda: alike_blocks(thrice), lambda: host_against(thrice, 0, 0)):
            with self.assertRaises(CanNot) as caught:
                call()
            self.assertEqual(vars(caught.exception), {})
        self.assertIs(nowhere_less(thrice, 0, 0), True)
        self.assertIs(is_host_against(thrice, 0, 0, (*thrice[:2], (), ())), False)


class Hosts(unittest.TestCase):

    def test_host_against(self):
        rng, against, none = rng_of(4), 0, 0
        while against < 60:
            program = without_read(rng, 32, size=3)
            if rng.random() < 0.5:
                sorts = tuple((word, rng.randint(1, 9)) for word, _ in program[0][2])
                program = ((*program[0][:2], sorts), *program[1:])
            for one, two in itertools.permutations(range(len(program[2])), 2):
                own = host_against(program, one, two)
                if may_stand(program, one, two):
                    self.assertIsNone(own)
                    none += 1
                    continue
                against += 1
                self.assertTrue(is_host_by(program, own), own)
                self.assertIs(is_host_against(program, one, two, own), True, (program, one, two))
                self.assertIs(is_host_against(program, two, one, own), False)
        self.assertGreater(none, 15)

    def test_asked_of_buses(self):
        """Modulo 3 it matters with which sign a bus is asked behind the block."""
        rng, asked = rng_of(15), 0
        while asked < 60:
            words = sorted(rng.sample(("pass", "put", "turn"), rng.randint(1, 3)))
            machine = (3, rng.choice(((None, 0), (0, None), (0, 0))), tuple((word, rng.choice((1, 2, 9))) for word in words))
            ways = [random_way(rng, machine, [], 3, 1, ("set", "set", "draw", "one", "many")) for _ in range(3)]
            program = (machine, ((0, 1),), (tuple(("call", number, ()) for number in (1, 2, 3)), *ways))
            for one, two in itertools.permutations(range(1, 4), 2):
                own = host_against(program, one, two)
                if own is not None:
                    asked += first_less(program, one, two)[1][2] > 0
                    self.assertIs(is_host_against(program, one, two, own), True, (program, one, two))

    def test_many_draws(self):
        """What must not be told by looks that go back to where a bus held 0: a HOST needs draws ahead."""
        rng, needed = rng_of(14), 0
        for _ in range(400):
            program = without_read(rng, 16, size=3)
            words = [word for word, _ in program[0][2]]
            if "pass" not in words or set(program[0][1]) == {None}:
                continue
            sorts = tuple((word, 9 if word == "put" else rng.choice((1, 2))) for word in words)
            program = ((*program[0][:2], sorts), *program[1:])
            for one, two in itertools.permutations(range(len(program[2])), 2):
                own = host_against(program, one, two)
                if own is None:
                    continue
                self.assertIs(is_host_against(program, one, two, own), True, (program, one, two))
                less = tuple(item for item in own[2] if item[0] != "draw")
                needed += not is_host_against(program, one, two, (*own[:2], less, own[3]))
        self.assertGreater(needed, 2)

    def test_shown_by_all_runs(self):
        """Blocks with few RUNS in the HOST told: the least prices, by all terms of all RUNS."""
        told = 0
        for sorts in ((("put", 1),), (("pass", 1), ("put", 1)), (("turn", 2),), (("pass", 1),)):
            for lying in ((None, None), (None, 0)):
                ways = (("set", 1, ((0, 1),)),), (("set", 1, ()),), (("one", ((), (("draw", 1),))),), ()
                program = (2, lying, sorts), ((0, 1),), ((*[("call", number, ()) for number in (1, 2, 3, 4)],), *ways)
                for one, two in itertools.permutations(range(1, 5), 2):
                    own = host_against(program, one, two)
                    if own is None or len(own[2] + own[3]) > 4:
                        continue
                    prices = [self.price_of(hosted(program, own, number)) for number in (one, two)]
                    self.assertTrue(lesser(prices[1], prices[0]), (program, one, two, own, prices))
                    told += 1
        self.assertGreater(told, 15)

    def price_of(self, program):
        lines = {run: Play(program, run).lines for run, _ in way_runs(program[2], program[2][0], 9, 9, 0)}
        return min((price_by(program, terms) for _, terms, _ in tellings(program, lines)), default=None)

    def test_no_host_against(self):
        """What may stand: no HOST that is tried out is against it, nor any program around."""
        rng, tried, less = rng_of(5), 0, 0
        while tried < 250:
            program = without_read(rng, size=3)
            own = random_host(rng, program, 64)
            prices = [least_price(hosted(program, own, number)) for number in range(len(program[2]))]
            for one, two in itertools.permutations(range(len(program[2])), 2):
                tried += 1
                wanted = lesser(prices[two], prices[one])
                less += wanted
                self.assertIs(is_host_against(program, one, two, own), wanted, (program, one, two, own))
                self.assertTrue(not wanted or not may_stand(program, one, two), (program, one, two, own))
                self.assertTrue(not wanted or not nowhere_less(program, one, two))
        self.assertGreater(less, 8)

    def test_every_program_around(self):
        """Calls of a block turned into calls of one that may stand for it: the least price is no less."""
        rng, tried = rng_of(6), 0
        while tried < 150:
            program = without_read(rng, size=3)
            for one, two in stand_pairs(program):
                way = random_way(rng, program[0], [one], 4, 2, ("set", "set", "draw", "call", "one", "many"))
                around = (program[0], program[1], program[2] + (way,))
                prices = []
                for block in (one, two):
                    turned = self.with_calls(way, one, block)
                    blocks = tuple([turned, *self.shifted(around[2][:-1])])
                    prices.append(least_price((program[0], program[1], blocks)))
                tried += 1
                self.assertFalse(lesser(prices[1], prices[0]), (program, one, two, way))

    def with_calls(self, way, one, block):
        """The way, as block 0 ahead of the others, with calls of the one block turned into calls of the other."""
        def of(item):
            if item[0] == "call":
                return "call", (block if item[1] == one else item[1]) + 1, item[2]
            if item[0] == "one":
                return "one", tuple(tuple(of(more) for more in own) for own in item[1])
            return ("many", tuple(of(more) for more in item[1])) if item[0] == "many" else item
        return tuple(of(item) for item in way)

    def shifted(self, blocks):
        return [self.with_calls(way, -1, -1) for way in blocks]

    def test_hosts_with_read(self):
        rng, tried, less = rng_of(7), 0, 0
        while tried < 150:
            program = clean_program(rng, size=3)
            if "read" not in dict(program[0][2]):
                continue
            own = random_host(rng, program, 64)
            prices = [least_price(hosted(program, own, number)) for number in range(len(program[2]))]
            for one, two in itertools.permutations(range(len(program[2])), 2):
                tried += 1
                wanted = lesser(prices[two], prices[one])
                less += wanted
                self.assertIs(is_host_against(program, one, two, own), wanted)
                self.assertTrue(not wanted or not nowhere_less(program, one, two))
        self.assertGreater(less, 2)

    def test_hosted(self):
        rng = rng_of(8)
        for _ in range(80):
            program = clean_program(rng)
            own = random_host(rng, program, 10 ** 6)
            self.assertIs(is_host(program, own), True)
            for block in range(len(program[2])):
                found = hosted(program, own, block)
                self.assertEqual(found, hosted_by(program, own, block))
                self.assertTrue(is_program(found) and is_clean(found))

    def test_is_host(self):
        for program, own in ((meet, host), (bus, (bus[0], bus[1], (), (("draw", 3), ("set", 2, ((0, 1),))))),
                             (tiny, ((2, (None, None, 0, 1, 0), (("turn", 1),)), ((0, 4), (1, 3)), (("set", 2, ()),), ()))):
            self.assertIs(is_host(program, own), True)
            for thing in things_like(own):
                wanted = is_host_by(program, thing)
                self.assertIs(is_host(program, thing), wanted, thing)
                if not wanted:
                    self.assertIs(is_host_against(program, 0, 0, thing), False)
        for thing in ((small, ((0, 1),), (), ()), (*host[:2], (("call", 1, ()),), ()), (*host[:2], (), (("many", ()),)), host[:3]):
            self.assertIs(is_host(meet, thing), False, thing)

    def test_widest(self):
        """24 registers and buses, 12 items: a price that many marks make, and none."""
        machine = (2, (None, None, 0, *[None] * 16, 1, 2), meet[0][2])
        parts = tuple(range(3, 12))
        # Of three copies that go over one bus one pass shows two.
        copies = tuple(("set", 18 + number % 3, ((slot, 1),)) for number, slot in enumerate(parts))
        wide = (machine, ((0, 1), parts), (("draw", 2), *copies[:4]), (*copies[4:], ("draw", 0)))
        self.assertIs(is_host(meet, wide), True)
        self.assertEqual([least_price(hosted(meet, wide, number)) for number in (1, 2, 3)], [7, 7, 7])
        self.assertIs(is_host_against(meet, 2, 3, wide), False)
        other = (machine, ((0, *parts), (1, 15)), wide[2], wide[3])
        self.assertEqual([least_price(hosted(meet, other, number)) for number in (1, 2, 3)], [None, None, 8])
        self.assertIs(is_host_against(meet, 1, 3, other), True)
        # What is told has too many ASKINGS for its least terms; what is not told has none.
        for call in (cheapest_telling, lambda program: least_telling(program, 8)):
            self.assertIsNone(call(hosted(meet, other, 1)))
            with self.assertRaises(TooMany):
                call(hosted(meet, other, 3))
        self.assertIsNone(least_telling(hosted(meet, other, 3), 7))
        self.assertIs(is_host_against(meet, 3, 1, other), False)
        five = ((5, (None,) * 24, (("put", 9),)), ((0, *range(2, 13)),), (), tuple(("set", 20, ((slot, 4),)) for slot in range(2, 13)))
        block = ((5, (None, None), (("put", 9),)), ((0, 1),), ((("call", 1, ()), ("call", 2, ())), (("set", 1, ((0, 3),)),), ()))
        self.assertEqual(least_price(hosted(block, five, 1)), 9 * 12)
        self.assertIs(is_host_against(block, 2, 1, five), True)


class WidePrices(unittest.TestCase):
    """Least prices without lists of ASKINGS."""

    def ways(self, rng, machine, callees, words):
        found = []
        for _ in range(rng.randint(0, 6)):
            if callees and rng.random() < 0.4:
                found.append(("call", rng.choice(callees), ()))
            else:
                found += random_way(rng, machine, [], 1, 0, words)
        return tuple(found)

    def test_beside_lists(self):
        rng, told, tried = rng_of(9), 0, 0
        while tried < 250:
            program = clean_program(rng, size=3)
            if any(item[0] == "call" and not item[1] for way in program[2] for item in all_items(way)):
                continue
            tried += 1
            first = self.ways(rng, program[0], list(range(1, len(program[2]))), ("set", "set", "set", "draw"))
            program = (*program[:2], (first, *program[2][1:]))
            self.assertIs(is_wide(program), False)
            for most in (None, 2, 5):
                wanted = least_told_price(program, full_view(program[0]), most)
                self.assertEqual(Wide(program, full_view(program[0]), most).price(), wanted, (program, most))
            told += wanted is not None
        self.assertGreater(told, 50)

    def test_is_wide(self):
        wide = hosted(meet, ((2, (None, None, 0, *[None] * 20), meet[0][2]), *host[1:]), 2)
        self.assertIs(is_wide(wide), True)
        self.assertIs(is_wide(hosted(meet, host, 2)), False)
        self.assertIs(is_wide((*wide[:2], (wide[2][0] + (("many", ()),), *wide[2][1:]))), False)
        self.assertIs(is_wide((*wide[:2], (wide[2][0] + (("call", 1, (0,)),), *wide[2][1:]))), False)
        self.assertIs(is_wide((*wide[:2], (wide[2][0], wide[2][1] + (("one", ((), (("call", 0, ()),))),)))), False)

    def test_long_reads(self):
        """Reads of many registers, whose rows are too many to be listed."""
        first = tuple((slot, 1) for slot in range(18))
        for prime, sorts, wanted in ((2, (("read", 3),), 6), (3, (("read", 4),), 8), (5, (("put", 1), ("read", 3)), 2)):
            machine = (prime, (None,) * 24, sorts)
            lines = (("set", 1, first[2:]), ("set", 2, ((18, prime - 1),)), ("set", 3, tuple((slot, 1) for slot in range(18, 24))))
            host = (machine, (tuple(range(12, 24)),), (("set", 0, first),), lines)
            block = ((prime, (None, None), sorts), ((0, 1),), ((("call", 1, ()),), ()))
            self.assertIs(is_host(block, host), True)
            self.assertEqual(least_price(hosted(block, host, 1)), wanted)

    def test_beside_all_marks(self):
        """The least price of all marks that tell together, block 0 having LINES alone."""
        rng, told = rng_of(10), 0
        while told < 40:
            prime = rng.choice((2, 2, 3))
            words = sorted(rng.sample(("pass", "put", "read", "turn"), rng.randint(1, 4)))
            machine = (prime, (None, None, None, None, 0, 0, None), tuple((word, rng.randint(1, 4)) for word in words))
            way = random_way(rng, machine, [], 5, 0, ("set", "set", "set", "set", "draw"))
            program = (machine, (((0, 1), (2, 3)), ((0, 1, 2),))[rng.randint(0, 1)], (way,))
            marks = [(number, word) for number in range(len(way)) for word in words]
            fits = [own for own in marks if self.rows_shown(program, own)]
            if len(fits) > 9:
                continue
            prices = dict(machine[2])
            wanted = min((sum(prices[word] for _, word in some) for many in range(1, len(fits) + 1)
                          for some in itertools.combinations(fits, many) if self.tell(program, some)), default=None)
            self.assertEqual(Wide(program, full_view(machine), None).price(), wanted, program)
            if wanted is not None:
                told += 1
                self.assertEqual(Wide(program, full_view(machine), wanted).price(), wanted)
                self.assertIsNone(Wide(program, full_view(machine), wanted - 1).price())

    def rows_shown(self, program, mark):
        """The spreads that span what a mark, or all reads of a LINE, can show."""
        number, word = mark
        item = program[2][0][number]
        if word != "read":
            return [shown(program, (), mark)] if is_mark(program, (), mark) else []
        pairs = item[2] if item[0] == "set" else ()
        return [shown(program, (), (number, "read", tuple(int(k == own) for own in range(len(pairs))))) for k in range(len(pairs))]

    def tell(self, program, some):
        """Whether the spaces of the spreads that are shown and of the secrets have more than 0 in common."""
        rows = [row for mark in some for row in self.rows_shown(program, mark)]
        length = len(sources(program, ()))
        parts = [slot for own in program[1] for slot in own]
        secrets = [tuple(int(k < len(parts) and parts[k] in own) for k in range(length)) for own in program[1]]
        prime = program[0][0]
        return rank(prime, rows) + len(secrets) > rank(prime, [*rows, *secrets])

    def test_price_to(self):
        machine = (2, (None,) * 9, plain)
        way = tuple(("set", 8, ((slot, 1),)) for slot in range(6))
        program = (machine, (tuple(range(6)),), (way,))
        for most, wanted in ((None, 3), (5, 3), (3, 3), (2, None), (0, None)):
            self.assertEqual(least_told_price(program, full_view(machine), most), wanted)


if __name__ == "__main__":
    unittest.main()
