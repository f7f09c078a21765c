"""[14]: just so many times, beside unrolled programs and rows of prices reckoned by naive tables."""

import unittest

from anydlooks.errors import NoItem, TooMany, Unfit
from anydlooks.forms import is_telling, price_of
from anydlooks.least import least_price
from anydlooks.programs import is_clean, is_program, items_of
from anydlooks.rounds import Rounds
from anydlooks.runs import choices_of
from anydlooks.times import (
    is_telling_times, is_times_form, is_times_paper, price_times, telling_times, times_form, times_paper,
    times_prices, told_times, unrolled,
)
from reckon import clean_program, length_of, nest, random_way, rng_of, rows_of, things_like
from samples import bus, deep, half, masked, plain, turned
from whole import Naive, bad_form


def cases(seed, many, most_askings=32):
    """Programs with a "many" in a block 0 that is called by none; its path."""
    rng = rng_of(seed)
    while many:
        program = clean_program(rng)
        places = [place for place, item in enumerate(program[2][0]) if item[0] == "many"]
        if places and program[0][0] ** length_of(program[0]) <= most_askings and not called(program):
            many -= 1
            yield rng, program, (0, rng.choice(places))


def called(program):
    return any(item[0] == "call" and item[1] == 0 for _, item in items_of(program))


def turning(seed, many):
    """Rounds that mask and exchange registers, so that prices rise and come back."""
    rng = rng_of(seed)
    for _ in range(many):
        slots = rng.choice((4, 5))
        sorts = rng.choice(((("turn", 1),), (("turn", 1),), (("put", 2), ("turn", 1)), (("put", 1),), (("put", 9), ("turn", 1))))
        way = []
        for _ in range(rng.randint(1, 2)):
            way += [("draw", slots - 1), ("set", rng.randrange(3), tuple(sorted(((rng.randrange(3), 1), (slots - 1, 1)))))]
        order = rng.sample(range(slots), slots)
        way += [("set", order[k], ((order[k + 1], 1),)) for k in range(rng.choice((0, 0, 2, slots - 1)))]
        if rng.random() < 0.3:
            way = [("one", (tuple(way), tuple(way[::-1])))]
        ahead = (("set", 3, ((2, 1),)),) if rng.random() < 0.3 else ()
        behind = (("set", 3, ((0, 1), (1, 1))),) if rng.random() < 0.8 else (("set", 3, ((0, 1),)), ("set", 2, ((1, 1),)))
        yield rng, ((2, (None,) * slots, sorts), ((0, 1),), ((*ahead, ("many", tuple(way)), *behind),)), (0, len(ahead))


def mixed(seed, many):
    """Rounds of any few items, for p 2, 3 and 5, with one dear sort or a cheap one."""
    rng = rng_of(seed)
    for _ in range(many):
        prime = rng.choice((2, 2, 3, 3, 5))
        slots = {2: rng.choice((4, 5)), 3: 3, 5: 2}[prime]
        lying = [None] * slots
        words = sorted(rng.sample(("put", "read", "turn"), rng.randint(1, 2))) if rng.random() < 0.6 else ["turn"]
        if prime == 2 and slots == 4 and rng.random() < 0.4:
            lying[rng.randrange(4)] = 0
            words = sorted({"pass", *words})
        machine = (prime, tuple(lying), tuple((word, rng.choice((1, 1, 2, 3, 9))) for word in words))
        way = random_way(rng, machine, [], 4, 1, ("set", "set", "draw", "draw", "one"))
        ahead, behind = [random_way(rng, machine, [], 2, 0, ("set", "set", "draw")) for _ in range(2)]
        yield rng, (machine, ((0, 1),), ((*ahead, ("many", way), *behind),)), (0, len(ahead))


def long_one(levels, last):
    """Register 0 drawn anew in each round: told by looks at each, or by looks at many LINES behind them.

    levels are pairs: how often the next block is called, and how many draws stand behind. With d
    draws in all a right paper has d // 2 + 1 rows at least.
    """
    pair = (("draw", 2), ("set", 1, ((1, 1), (2, 1))))
    way = ("many", (("one", ((("call", 1, ()), ("set", 1, ((0, 1),))), ())), ("draw", 0)))
    behind = (("set", 3, ()), ("set", 3, ((0, 1),)), ("call", 1, ()), ("set", 3, ()), ("set", 3, ((1, 1),)))
    blocks = tuple((("call", number + 2, ()),) * times + pair * more for number, (times, more) in enumerate(levels))
    return (2, (None,) * 4, (("turn", 1),)), ((0, 1),), ((way, *behind), *blocks, pair * last)


class Reckoned:
    """The rows and prices of a program, by naive tables to a great price."""

    def __init__(self, program, path, most=60):
        naive = Naive(program, most)
        tables, way = naive.least(), program[2][0]
        self.askings = rows_of(program[0][0], length_of(program[0]))
        quiet = self.askings[0]
        self.once = naive.way(way[path[1]][1], tables)
        row = {ahead: own for (ahead, behind), own in naive.way(way[path[1] + 1:], tables).items() if behind == quiet}
        self.rows = [row]
        self.ahead = {}
        for (ahead, behind), own in naive.way(way[:path[1]], tables).items():
            if bad_form(program, ahead):
                self.ahead[behind] = min(own, self.ahead.get(behind, own))

    def row(self, number):
        while len(self.rows) <= number:
            found = {}
            for (ahead, behind), own in self.once.items():
                if behind in self.rows[-1]:
                    found[ahead] = min(own + self.rows[-1][behind], found.get(ahead, 10 ** 9))
            self.rows.append(found)
        return tuple(self.rows[number].get(own) for own in self.askings)

    def price(self, number):
        self.row(number)
        return min((self.ahead[own] + more for own, more in self.rows[number].items() if own in self.ahead), default=None)


def by_form(form, number):
    prices, slopes = form
    if number < len(prices):
        return prices[number]
    before = by_form(form, number - len(slopes))
    return None if before is None else before + slopes[(number - len(prices)) % len(slopes)]


class Prices(unittest.TestCase):

    def test_unrolled(self):
        """The price at many is the least price of the unrolled program."""
        for rng, program, path in [*cases(1, 60), *turning(2, 25)]:
            prices = times_prices(program, path, 8)
            for many in (0, 1, 2, 3, 8):
                plain_one = unrolled(program, path, many)
                self.assertIs(is_program(plain_one), True)
                if is_clean(plain_one):
                    self.assertEqual(least_price(plain_one), prices[many], (program, path, many))
                way = program[2][0]
                self.assertEqual(plain_one[2][0], way[:path[1]] + way[path[1]][1] * many + way[path[1] + 1:])
                self.assertEqual(plain_one[:2] + plain_one[2][1:], program[:2] + program[2][1:])

    def test_reckoned(self):
        """Beside rows by naive tables, for p 2, 3 and 5."""
        primes, rising, periods = set(), 0, set()
        for rng, program, path in [*cases(3, 50, 16), *cases(4, 10, 25), *turning(5, 40)]:
            if program[0][0] ** length_of(program[0]) > 25:
                continue
            own = Reckoned(program, path)
            wanted = [own.price(number) for number in range(61)]
            self.assertEqual(times_prices(program, path, 60), wanted, (program, path))
            form = times_form(program, path)
            self.assertEqual([by_form(form, number) for number in range(61)], wanted)
            for number in (0, 1, 7, 40, 60):
                self.assertEqual(price_times(program, path, number), wanted[number])
            rows, slopes = times_paper(program, path)
            self.assertEqual([own.row(number) for number in range(len(rows))], list(rows))
            for number in range(len(rows), len(rows) + 3 * len(slopes)):
                rise = slopes[(number - len(rows)) % len(slopes)]
                ahead = own.row(number - len(slopes))
                self.assertEqual(own.row(number), tuple(None if a is None else a + b for a, b in zip(ahead, rise)))
            primes.add(program[0][0])
            rising += any(form[1])
            periods.add(len(form[1]))
        self.assertEqual(primes, {2, 3, 5})
        self.assertGreater(rising, 2)
        self.assertTrue({1, 2} <= periods, periods)

    def test_mixed(self):
        shapes = set()
        for rng, program, path in mixed(19, 110):
            own = Reckoned(program, path, 100)
            wanted = [own.price(number) for number in range(61)]
            self.assertEqual(times_prices(program, path, 60), wanted, (program, path))
            form = times_form(program, path)
            self.assertEqual([by_form(form, number) for number in range(61)], wanted)
            rows, slopes = paper = times_paper(program, path)
            self.assertEqual([own.row(number) for number in range(len(rows))], list(rows))
            self.assertIs(is_times_paper(program, path, paper), True)
            self.assertIs(is_times_form(program, path, form), True)
            shapes.add((len(rows), len(slopes), any(any(row) for row in slopes)))
        self.assertGreater(len(shapes), 7, shapes)

    def test_far_away(self):
        """Numbers up to 10 ** 18, by the form and by one another."""
        for rng, program, path in [*cases(6, 15), *turning(7, 25)]:
            prices, slopes = form = times_form(program, path)
            for _ in range(5):
                number = rng.randrange(10 ** 18)
                period = len(slopes)
                times = (number - len(prices)) // period + 1
                rest = number - times * period
                start, rise = by_form(form, rest), slopes[(number - len(prices)) % period]
                self.assertEqual(price_times(program, path, number), None if start is None else start + times * rise)
            self.assertEqual(price_times(program, path, 10 ** 18 + 10 ** 9), price_times(program, path, 10 ** 18 + 10 ** 9))

    def test_shortest(self):
        """No shorter slopes, no shorter prices are right."""
        for rng, program, path in [*cases(8, 20), *turning(9, 40)]:
            prices, slopes = times_form(program, path)
            wanted = times_prices(program, path, 60)
            for period in range(1, len(slopes) + 1):
                for many in range(period, len(prices) + (period < len(slopes)) * 20):
                    tried = self.form(wanted, many, period)
                    right = all(by_form(tried, number) == wanted[number] for number in range(61))
                    if (period, many) != (len(slopes), len(prices)):
                        self.assertFalse(right, (program, path, period, many))

    def form(self, wanted, many, period):
        slopes = [0 if None in (wanted[k], wanted[k - period]) else max(0, wanted[k] - wanted[k - period])
                  for k in range(many, many + period)]
        return tuple(wanted[:many]), tuple(slopes)

    def test_never_rises_with_nothing_behind(self):
        found = 0
        for rng, program, path in cases(10, 150):
            if path[1] + 1 == len(program[2][0]):
                found += 1
                prices = [10 ** 9 if own is None else own for own in times_prices(program, path, 20)]
                self.assertEqual(prices, sorted(prices, reverse=True))
        self.assertGreater(found, 10)

    def test_told(self):
        for rng, program, path in [*cases(11, 15), *turning(12, 24)]:
            prices = times_prices(program, path, 60)
            for most in (0, 1, 2, 4, 6):
                start, period, numbers = told_times(program, path, most)
                told = [own is not None and own <= most for own in prices]
                self.assertEqual(numbers, tuple(k for k in range(start + period) if told[k]))
                self.assertTrue(all(told[k] == told[k + period] for k in range(start, 61 - period)))
                self.assertTrue(start == 0 or told[start - 1] != told[start - 1 + period])
                for less in range(1, period):
                    self.assertFalse(all(told[k] == told[k + less] for k in range(start, 61 - less)))


class Forms(unittest.TestCase):

    def test_is_times_form(self):
        for rng, program, path in [*cases(13, 7), *turning(14, 8)]:
            prices, slopes = form = times_form(program, path)
            self.assertIs(is_times_form(program, path, form), True)
            wanted = times_prices(program, path, 60)
            for times in (2, 3):
                longer = tuple(wanted[:len(prices) + times * len(slopes)])
                rises = self.rises(wanted, len(longer), times * len(slopes))
                self.assertIs(is_times_form(program, path, (longer, rises)), True)
                self.assertIs(is_times_form(program, path, (longer, slopes)), True)
            for _ in range(25):
                many, period = rng.randint(1, 8), rng.randint(1, 4)
                if period <= many:
                    thing = [list(wanted[:many]), list(self.rises(wanted, many, period))]
                    if rng.random() < 0.5:
                        part = rng.choice(thing)
                        part[rng.randrange(len(part))] = rng.randint(0, 3)
                    thing = tuple(tuple(own) for own in thing)
                    right = min(thing[1]) >= 0 and all(by_form(thing, number) == wanted[number] for number in range(61))
                    right = right and all(rise == 0 for rise, own in zip(thing[1], thing[0][many - period:]) if own is None)
                    self.assertIs(is_times_form(program, path, thing), right, (program, path, thing))

    def rises(self, wanted, many, period):
        return tuple(0 if None in (wanted[k], wanted[k - period]) else wanted[k] - wanted[k - period]
                     for k in range(many, many + period))

    def test_form_things(self):
        good = ((1, 2, 2), (1, 1))
        self.assertIs(is_times_form(masked, (0, 0), good), True)
        for thing in things_like(good):
            shaped = (type(thing) is tuple and len(thing) == 2 and all(type(own) is tuple for own in thing)
                      and all(own is None or type(own) is int for own in thing[0])
                      and all(type(own) is int and own >= 0 for own in thing[1]) and 0 < len(thing[1]) <= len(thing[0]))
            right = shaped and all(by_form(thing, k) == 1 + (k + 1) // 2 for k in range(60))
            self.assertIs(is_times_form(masked, (0, 0), thing), right, thing)
        self.assertIs(is_times_form(turned, (0, 0), ((None, 2), (0,))), True)
        self.assertIs(is_times_form(turned, (0, 0), ((None, 2, 2, 2), (0, 0))), True)
        self.assertIs(is_times_form(half, (0, 0), ((None,), (0,))), True)
        self.assertIs(is_times_form(half, (0, 0), ((None,), (1,))), False)
        self.assertIs(is_times_form(half, (0, 0), ((), ())), False)
        self.assertIs(is_times_form(half, (0, 0), ((None, None), ())), False)

    def test_long_form(self):
        """A short paper, a long form: one price at first is the least, another one later."""
        pair = (("draw", 2), ("set", 3, ((2, 1), (3, 1))))
        far = ((2, (None,) * 4, (("turn", 1),)), ((0, 1),), (
            (("set", 3, ((0, 1),)), ("many", (("draw", 2), ("set", 0, ((0, 1), (2, 1))))), ("set", 2, ((0, 1), (1, 1))),
             ("call", 1, ()), ("set", 2, ((1, 1), (3, 1)))), (("call", 2, ()),) * 12, pair * 6))
        prices = times_prices(far, (0, 1), 60)
        form = times_form(far, (0, 1))
        self.assertEqual([by_form(form, number) for number in range(61)], prices)
        self.assertEqual(form[1][-1], 0)
        self.assertEqual(price_times(far, (0, 1), 10 ** 18), form[0][-1])
        self.assertEqual(price_times(far, (0, 1), 10 ** 18), max(form[0]))


class Papers(unittest.TestCase):

    def test_papers(self):
        for rng, program, path in [*cases(15, 10, 16), *turning(16, 12)]:
            rows, slopes = paper = times_paper(program, path)
            self.assertIs(is_times_paper(program, path, paper), True)
            longer = rows + tuple(self.next(rows, slopes, k) for k in range(len(slopes)))
            self.assertIs(is_times_paper(program, path, (longer, slopes)), True)
            twice = longer + tuple(self.next(longer, slopes, k) for k in range(len(slopes)))
            double = tuple(tuple(2 * own for own in row) for row in slopes) * 2
            self.assertIs(is_times_paper(program, path, (twice, double)), True)
            if len(rows) > len(slopes):
                self.assertIs(is_times_paper(program, path, (rows[:-1], slopes)), False)
            for _ in range(20):
                parts = [[list(row) for row in own] for own in paper]
                row = rng.choice(rng.choice(parts))
                place = rng.randrange(len(row))
                row[place] = rng.choice([own for own in (0, 1, 2, row[place] and row[place] + 1) if own != row[place]])
                thing = tuple(tuple(tuple(own) for own in part) for part in parts)
                self.assertIs(is_times_paper(program, path, thing), False, (program, path, thing))

    def next(self, rows, slopes, number):
        ahead = rows[len(rows) - len(slopes) + number]
        return tuple(None if own is None else own + more for own, more in zip(ahead, slopes[number]))

    def test_paper_of_what_is_so_at_first(self):
        """Right for hundreds of rows, and then no more."""
        program = long_one(((5, 0), (5, 0), (4, 0)), 6)
        own = Rounds(program, 0)
        rows = tuple(own.row_at(number) for number in range(200))
        slopes = (tuple(0 if a is None else b - a for a, b in zip(rows[198], rows[199])),)
        self.assertTrue(any(slopes[0]))
        self.assertIs(is_times_paper(program, (0, 0), (rows, slopes)), False)
        self.assertEqual(len(times_paper(program, (0, 0))[0]), 301)

    def test_most_rows(self):
        """600 rows, and one more."""
        at_most = long_one(((3, 1), (6, 3), (11, 0)), 6)
        self.assertEqual(len(times_paper(at_most, (0, 0))[0]), 600)
        self.assertEqual(price_times(at_most, (0, 0), 10 ** 18), times_prices(at_most, (0, 0), 60)[60])
        program, form = long_one(((2, 0), (10, 0), (10, 0)), 6), times_form(at_most, (0, 0))
        for call in (lambda: price_times(program, (0, 0), 3), lambda: times_form(program, (0, 0)),
                     lambda: is_times_form(program, (0, 0), form), lambda: times_paper(program, (0, 0)),
                     lambda: told_times(program, (0, 0), 6)):
            with self.assertRaises(TooMany) as caught:
                call()
            self.assertEqual(vars(caught.exception), {})
        own = Rounds(program, 0)
        rows = tuple(own.row_at(number) for number in range(601))
        zeros = ((0,) * 16,)
        self.assertIs(is_times_paper(program, (0, 0), (rows, zeros)), True)
        self.assertIs(is_times_paper(program, (0, 0), (rows[:600], zeros)), False)
        self.assertEqual(len(times_prices(program, (0, 0), 60)), 61)
        with self.assertRaises(NoItem):
            times_form(program, (0, 9))
        with self.assertRaises(Unfit):
            times_form(program, (0, 1))

    def test_paper_things(self):
        rows, slopes = good = times_paper(masked, (0, 0))
        for thing in things_like((rows[:1], slopes[:1])):
            self.assertIs(is_times_paper(masked, (0, 0), thing), False)
        for thing in (None, (), ((), ()), (rows, ()), (rows, slopes, ()), [rows, slopes], (list(rows), slopes),
                      (rows, list(slopes)), (slopes, rows), (rows, rows * 2), (rows[:1], slopes * 2), nest(30)):
            self.assertIs(is_times_paper(masked, (0, 0), thing), False)
        self.assertIs(is_times_paper(masked, (0, 0), good), True)
        zeros = tuple(tuple(own or False for own in row) for row in slopes)
        self.assertIs(is_times_paper(masked, (0, 0), (rows, zeros)), False)


class Tellings(unittest.TestCase):

    def test_tellings(self):
        told = none = 0
        for rng, program, path in [*cases(17, 40), *turning(18, 16)]:
            prices = times_prices(program, path, 8)
            for many in (0, 1, 2, 5, 8):
                found = telling_times(program, path, many)
                if prices[many] is None:
                    self.assertIsNone(found)
                    none += 1
                    continue
                told += 1
                run, terms = found
                self.assertIs(is_telling(program, found), True)
                self.assertEqual(price_of(program[0], [mark for mark, _ in terms]), prices[many])
                self.assertEqual([number for own, number, _ in choices_of(program, run) if own == path], [many])
                self.assertIs(is_telling_times(program, path, many, found), True)
                for other in range(9):
                    self.assertIs(is_telling_times(program, path, other, found), other == many)
        self.assertGreater(told, 60)
        self.assertGreater(none, 20)

    def test_dearer_ones(self):
        """A TELLING that is dearer than the price is none."""
        good = ((2,), (((2, "turn"), 1), ((4, "turn"), 1)))
        self.assertIs(is_telling_times(masked, (0, 0), 2, good), True)
        dear = ((2,), (((0, "turn"), 1), ((2, "turn"), 1), ((4, "turn"), 1)))
        self.assertIs(is_telling_times(masked, (0, 0), 2, dear), False)
        for thing in things_like(good):
            wanted = isinstance(thing, tuple) and repr(thing) == repr(good)
            self.assertIs(is_telling_times(masked, (0, 0), 2, thing), wanted, thing)
        for most in (0, 1, 3):
            self.assertIs(is_telling_times(masked, (0, 0), most, good), False)


class Errors(unittest.TestCase):

    def calls(self, program, path):
        yield lambda: price_times(program, path, 2)
        yield lambda: times_prices(program, path, 2)
        yield lambda: times_form(program, path)
        yield lambda: is_times_form(program, path, ((1,), (0,)))
        yield lambda: times_paper(program, path)
        yield lambda: is_times_paper(program, path, None)
        yield lambda: told_times(program, path, 2)
        yield lambda: telling_times(program, path, 2)
        yield lambda: is_telling_times(program, path, 2, None)
        yield lambda: unrolled(program, path, 2)

    def test_no_item(self):
        ring = (plain_ring()[0], plain_ring()[1], plain_ring()[2])
        for program in (masked, ring):
            for path in ((0, 2), (0,), (), (1, 9), (-1, 0), (0, -1), (0, True), (0, 0, 5), (9, 9, 9), (10 ** 30, 0)):
                for call in self.calls(program, path):
                    with self.assertRaises(NoItem) as caught:
                        call()
                    self.assertEqual(vars(caught.exception), {"path": path})
        for call in self.calls(masked, [0, 2]):
            with self.assertRaises(NoItem) as caught:
                call()
            self.assertEqual(caught.exception.path, (0, 2))

    def test_unfit(self):
        """An ITEM that is no "many" of block 0, or a block 0 that is called."""
        inner = (masked[0], masked[1], ((("many", (("many", ()),)), ("call", 1, ())), (("many", ()),)))
        for program, path in ((masked, (0, 1)), (masked, (0, 0, 0)), (bus, (0, 0)), (inner, (0, 0, 0)), (inner, (1, 0)),
                              (inner, (0, 1)), (deep, (0, 0)), (plain_ring(), (0, 0))):
            for call in self.calls(program, path):
                with self.assertRaises(Unfit) as caught:
                    call()
                self.assertEqual(vars(caught.exception), {})

    def test_edges(self):
        """A "many" without ITEMS, alone or with others."""
        empty = ((2, (None, None), plain), ((0, 1),), ((("many", ()),),))
        self.assertEqual(times_form(empty, (0, 0)), ((None,), (0,)))
        self.assertEqual(times_prices(empty, (0, 0), 60), [None] * 61)
        self.assertEqual(told_times(empty, (0, 0), 6), (0, 1, ()))
        self.assertIsNone(price_times(empty, (0, 0), 10 ** 18))
        self.assertIsNone(telling_times(empty, (0, 0), 8))
        self.assertEqual(unrolled(empty, (0, 0), 8)[2], ((),))
        loud = (empty[0], empty[1], ((("many", ()), ("set", 0, ((0, 1), (1, 1)))),))
        self.assertEqual(told_times(loud, (0, 0), 1), (0, 1, (0,)))
        self.assertEqual(times_form(loud, (0, 0)), ((1,), (0,)))
        self.assertEqual(times_prices(loud, (0, 0), 0), [1])


def plain_ring():
    """Block 0 is called."""
    return ((2, (None, None), plain), ((0, 1),), ((("many", (("one", ((), (("call", 0, ()),))),)),),))


if __name__ == "__main__":
    unittest.main()
