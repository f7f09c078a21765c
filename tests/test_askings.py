"""[9]: askings of one run, beside all sets of marks."""

import unittest

import predicates
from anydlooks.askings import (
    draws_asked, form_of, form_prices, is_asking, is_bad, is_walk, least_terms, least_told, nobody, told_walk,
    walk_of, walk_terms,
)
from anydlooks.errors import TooMany, Unfit
from anydlooks.forms import is_telling
from anydlooks.runs import lines_of
from reckon import (
    Play, all_terms, asked_at, cheapest, clean_program, count_terms, draws_by, form_of_spread, length_of, nest, price,
    rng_of, rows_of, spread, things_like, walk_by,
)
from samples import bus, deep, plain, renew, thrice, turned
from test_forms import cases, random_terms

KEEPING = ("set", "set", "draw", "call", "call", "one", "many")


def listed(program, run, most=1500):
    """The LINES of the run and all terms of it; None if these are too many."""
    lines = Play(program, run).lines
    return (lines, all_terms(program, lines)) if count_terms(program, lines) <= most else (lines, None)


def states(program, lines):
    """p to the number of registers, buses, and put backs held where they are the most."""
    held = [0]
    for number in range(len(lines)):
        held.append(sum(line[0] == "back" and line[2] <= number for line in lines[number:]))
    return program[0][0] ** (length_of(program[0]) + max(held))


def form_by(program, run, terms):
    prime = program[0][0]
    row = spread(program, run, lambda play: sum(own * play.shown(mark) for mark, own in terms) % prime)
    return form_of_spread(program, row) if terms else None


class Walks(unittest.TestCase):

    def test_walks(self):
        backs = 0
        for words in (KEEPING, ("set", "set", "set", "draw", "call", "one", "many")):
            for rng, program, run in cases(1, 150, lines=7, words=words):
                lines = Play(program, run).lines
                backs += any(line[0] == "back" for line in lines)
                for _ in range(3):
                    terms = random_terms(rng, program, lines)
                    self.assertEqual(walk_of(program, run, terms), walk_by(program[0], lines, terms), (program, run, terms))
                    self.assertEqual(draws_asked(program, run, terms), draws_by(program[0], lines, terms))
        self.assertGreater(backs, 60)

    def test_sum_shown_is_what_is_asked(self):
        for rng, program, run in cases(2, 150):
            lines = Play(program, run).lines
            terms = random_terms(rng, program, lines)
            prime = program[0][0]
            row = spread(program, run, lambda play: sum(own * play.shown(mark) for mark, own in terms) % prime)
            first = walk_of(program, run, terms)[0]
            parts = [first[slot] for own in program[1] for slot in own]
            self.assertEqual(list(row), parts + draws_asked(program, run, terms))
            heard = not any(draws_asked(program, run, terms))
            self.assertEqual(bool(terms) and heard and is_bad(program, first), is_telling(program, (run, terms)))

    def test_walk_terms(self):
        found = 0
        for words in (KEEPING, ("set", "set", "set", "draw", "call", "one", "many")):
            for rng, program, run in cases(3, 120, lines=4, most=2, words=words):
                lines, every = listed(program, run, 300)
                if every is None or states(program, lines) > 1024:
                    continue
                by_walk = {}
                for terms in every:
                    if not any(draws_by(program[0], lines, terms)):
                        by_walk.setdefault(walk_by(program[0], lines, terms), []).append(terms)
                for walk, own in by_walk.items():
                    self.assertEqual(walk_terms(program, run, walk), cheapest(program, own))
                    self.assertIs(is_walk(program, run, walk), True)
                    found += len(own) > 1
                askings = rows_of(program[0][0], length_of(program[0]))
                walks = sorted(by_walk)
                for _ in range(20):
                    walk = list(rng.choice(walks))
                    walk[rng.randrange(len(walk))] = rng.choice(askings)
                    walk = tuple(walk)
                    self.assertIs(is_walk(program, run, walk), walk in by_walk)
                    if walk not in by_walk:
                        with self.assertRaises(Unfit):
                            walk_terms(program, run, walk)
        self.assertGreater(found, 100)


class Cheapest(unittest.TestCase):

    def check(self, program, run, every):
        """Compares with all terms; tells how many FORMS are told, -1 if there are too many states."""
        if states(program, Play(program, run).lines) > 1024:
            for call in (least_terms, least_told, told_walk, form_prices):
                with self.assertRaises(TooMany):
                    call(program, run)
            return -1
        told = {}
        for terms in every:
            form = form_by(program, run, terms)
            if form is not None:
                told.setdefault(form, []).append(terms)
        prices = sorted((form, price(program, cheapest(program, own))) for form, own in told.items())
        self.assertEqual(form_prices(program, run), prices)
        best = cheapest(program, [terms for own in told.values() for terms in own])
        self.assertEqual(least_terms(program, run), best, (program, run))
        self.assertEqual(least_told(program, run), None if best is None else price(program, best))
        lines = Play(program, run).lines
        self.assertEqual(told_walk(program, run), None if best is None else walk_by(program[0], lines, best))
        return len(told)

    def test_all_terms(self):
        several = none = some = 0
        for words in (KEEPING, ("set", "set", "set", "draw", "call", "one", "many"), ("set", "set", "set", "set", "draw")):
            for rng, program, run in cases(4, 150, lines=5, most=2, words=words):
                lines, every = listed(program, run)
                if every is not None:
                    many = self.check(program, run, every)
                    none += many == 0
                    some += many == 1
                    several += many > 1
        self.assertGreater(min(none, some, several), 15)

    def test_reads(self):
        rng, told = rng_of(5), 0
        for _ in range(60):
            prime = rng.choice((2, 3, 5))
            slots = {2: 4, 3: 3, 5: 2}[prime]
            machine = prime, (None,) * slots, (("read", rng.randint(1, 3)), ("turn", rng.randint(1, 3)))
            line = [("set", rng.randrange(slots), tuple((slot, rng.randint(1, prime - 1)) for slot in sorted(
                rng.sample(range(slots), rng.randint(1, 2))))) for _ in range(2)]
            program = machine, ((0, 1),), (tuple(line),)
            lines, every = listed(program, (), 20000)
            if every is not None:
                told += self.check(program, (), every)
        self.assertGreater(told, 30)

    def test_ties(self):
        machine = (2, (None,) * 4, (("put", 1), ("turn", 2)))
        # Price 2 either way: one turn, or two puts; the fewest marks come first.
        lines = (("set", 2, ((0, 1),)), ("set", 2, ((1, 1),)))
        program = (machine, ((0, 1),), (lines,))
        self.assertEqual(least_terms(program, ()), (((1, "turn"), 1),))
        same = (machine, ((0, 1),), ((("set", 2, ((0, 1), (1, 1))), ("set", 3, ((2, 1),)), ("set", 3, ((2, 1),))),))
        self.assertEqual(least_terms(same, ()), (((0, "put"), 1),))
        three = ((3, (None,) * 3, (("put", 1), ("read", 1))), ((0, 1),), ((("set", 2, ((0, 2), (1, 2))),),))
        self.assertEqual(least_terms(three, ()), (((0, "put"), 1),))
        self.assertEqual(form_prices(three, ()), [((1,), 1), ((2,), 1)])
        read = ((3, (None,) * 3, (("read", 1),)), ((0, 1),), ((("set", 2, ((0, 2), (1, 1))),),))
        self.assertEqual(least_terms(read, ()), (((0, "read", (1, 1)), 1),))


class Bad(unittest.TestCase):

    def test_bad(self):
        rng = rng_of(6)
        for _ in range(60):
            program = clean_program(rng)
            for asking in rows_of(program[0][0], length_of(program[0])):
                self.assertIs(is_asking(program[0], asking), True)
                form = [{asking[slot] for slot in own} for own in program[1]]
                bad = all(len(own) == 1 for own in form) and any(own != {0} for own in form)
                self.assertEqual(is_bad(program, asking), bad)
                self.assertEqual(is_bad(program, list(asking)), bad)
                if bad:
                    self.assertEqual(form_of(program, asking), tuple(own.pop() for own in form))
                else:
                    with self.assertRaises(Unfit) as caught:
                        form_of(program, asking)
                    self.assertEqual(vars(caught.exception), {})
            self.assertEqual(nobody(program[0]), (0,) * length_of(program[0]))

    def test_things(self):
        for machine in (bus[0], thrice[0], (5, (0, None), plain)):
            length = length_of(machine)
            for thing in things_like((1,) * length) + [nest(30), (machine[0] - 1,) * length, (machine[0],) * length]:
                self.assertIs(is_asking(machine, thing), predicates.residues(thing, machine[0], length), thing)
        program, run = deep, (1, 0)
        sample = walk_of(program, run, (((1, "put"), 1), ((2, "put"), 1)))
        lines = lines_of(program, run)
        walks = {walk_by(program[0], lines, terms) for terms in all_terms(program, lines)
                 if not any(draws_by(program[0], lines, terms))}
        for thing in things_like(sample):
            good = type(thing) is tuple and all(predicates.residues(own, 2, 3) for own in thing)
            self.assertIs(is_walk(program, run, thing), good and thing in walks, thing)
        self.assertIs(is_walk(program, run, sample), True)


class Errors(unittest.TestCase):

    def test_runs_first(self):
        quiet = nobody(deep[0])
        calls = [lambda run: walk_of(deep, run, ()), lambda run: draws_asked(deep, run, ()),
                 lambda run: is_walk(deep, run, None), lambda run: walk_terms(deep, run, (quiet,)),
                 lambda run: least_terms(deep, run), lambda run: least_told(deep, run), lambda run: told_walk(deep, run),
                 lambda run: form_prices(deep, run)]
        for call in calls:
            for run in ((), (1,), (3,), (0, 0), [1]):
                with self.assertRaises(Unfit):
                    call(run)

    def test_terms(self):
        for terms in ((((9, "put"), 1),), (((0, "pass"), 1),), (((0, "put"), 0),), (((0, "put"), 1), ((0, "put"), 1))):
            with self.assertRaises(Unfit):
                walk_of(deep, (1, 0), terms)
            with self.assertRaises(Unfit):
                draws_asked(deep, (1, 0), terms)

    def test_too_many(self):
        """p to registers, buses and put backs held at once: 1,024 is let, more is not."""
        for prime, slots, let, barred in ((2, 5, 5, 6), (3, 3, 3, 4), (5, 2, 2, 3)):
            machine = (prime, (None,) * slots, (("put", 1),))
            for many, good in ((let, True), (barred, False)):
                blocks = []
                left = many
                while left:
                    own = min(slots, left)
                    left -= own
                    blocks.append((("call", len(blocks) + 1, tuple(range(own))),))
                program = (machine, ((0, 1),), tuple(blocks) + ((("draw", 0),),))
                run, lines = (), many + 1
                quiet = nobody(machine)
                walk = (quiet,) * (lines + 1)
                if good:
                    self.assertIs(is_walk(program, run, walk), True)
                    self.assertEqual(walk_terms(program, run, walk), ())
                    self.assertEqual((least_terms(program, run) is None), least_told(program, run) is None)
                    self.assertEqual(form_prices(program, run) == [], told_walk(program, run) is None)
                else:
                    for call in (lambda: is_walk(program, run, walk), lambda: walk_terms(program, run, walk),
                                 lambda: walk_terms(program, run, ((1,) * slots,) * (lines + 1)),
                                 lambda: least_terms(program, run), lambda: least_told(program, run),
                                 lambda: told_walk(program, run), lambda: form_prices(program, run)):
                        with self.assertRaises(TooMany):
                            call()
                    # What is no tuple of so many ASKINGS is none, whatever could be held.
                    for thing in (None, (), walk[1:], walk + walk[:1], list(walk), (quiet[1:],) * (lines + 1)):
                        self.assertIs(is_walk(program, run, thing), False)
                    self.assertEqual(walk_of(program, run, ()), walk)

    def test_held_at_once(self):
        # Calls one behind the other hold nothing at once; put backs behind each other in one call do.
        machine = (2, (None,) * 5, (("put", 1),))
        row = (("call", 1, (0, 1, 2, 3, 4)),)
        flat = (machine, ((0, 1),), (row * 4, (("draw", 0),)))
        self.assertEqual(least_terms(flat, ()), (((1, "put"), 1), ((2, "put"), 1)))
        held = (machine, ((0, 1),), (row + (("call", 1, (0,)),), (("draw", 0), ("call", 2, (1,))), ()))
        with self.assertRaises(TooMany):
            least_terms(held, ())
        free = (machine, ((0, 1),), ((("call", 1, (0, 1, 2, 3)), ("call", 1, (0,))), (("call", 2, (1,)), ("draw", 0)), ()))
        self.assertEqual(states(free, lines_of(free, ())), 1024)
        self.assertIsNotNone(least_terms(free, ()))

    def test_great_machines(self):
        """1,024 is let for registers and buses alone, too."""
        ten = ((2, (None,) * 10, (("put", 1),)), ((0, 9),), ((("set", 3, ((0, 1), (9, 1))),),))
        self.assertEqual(least_terms(ten, ()), (((0, "put"), 1),))
        still = (ten[0], ten[1], ((),))
        self.assertEqual((least_terms(still, ()), walk_terms(still, (), (nobody(ten[0]),))), (None, ()))
        eleven = ((2, (None,) * 11, (("put", 1),)), ((0, 9),), ((("set", 3, ((0, 1), (9, 1))),),))
        with self.assertRaises(TooMany):
            least_terms(eleven, ())


class Edges(unittest.TestCase):

    def test_no_lines(self):
        quiet = nobody(turned[0])
        self.assertEqual((walk_of(turned, (0,), ()), draws_asked(turned, (0,), ())), ((quiet,), []))
        self.assertEqual((walk_terms(turned, (0,), (quiet,)), is_walk(turned, (0,), (quiet,))), ((), True))
        self.assertIs(is_walk(turned, (0,), ((1, 1, 1, 0),)), False)
        with self.assertRaises(Unfit):
            walk_terms(turned, (0,), ((1, 1, 1, 0),))
        self.assertEqual((least_terms(turned, (0,)), told_walk(turned, (0,)), form_prices(turned, (0,))), (None, None, []))

    def test_no_terms(self):
        for program, run in ((renew, ()), (deep, (1, 0)), (bus, ())):
            lines = lines_of(program, run)
            self.assertEqual(walk_of(program, run, ()), (nobody(program[0]),) * (len(lines) + 1))
            self.assertEqual(set(draws_asked(program, run, ())) - {0}, set())

    def test_kept_but_not_written(self):
        # The callee writes nothing, and still the put back is a LINE with marks.
        program = ((2, (None,) * 3, (("put", 1), ("turn", 1))), ((0, 1),), ((("call", 1, (0, 1)),), ()))
        lines = lines_of(program, ())
        self.assertEqual(lines, (("back", 0, 0), ("back", 1, 0)))
        terms = (((0, "put"), 1), ((1, "put"), 1))
        self.assertEqual(walk_of(program, (), terms), ((1, 1, 0), (0, 0, 0), (0, 0, 0)))
        self.assertEqual(walk_of(program, (), terms), walk_by(program[0], lines, terms))
        self.assertEqual((least_terms(program, ()), form_prices(program, ())), (terms, [((1,), 2)]))
        self.assertEqual(asked_at(program[0], lines, 0, (((0, "turn"), 1),)), (0, 0, 0))

    def test_long_run(self):
        self.assertEqual(least_terms(turned, (10,)), (((0, "put"), 1), ((2, "turn"), 1)))
        self.assertEqual(len(told_walk(turned, (10,))), 41)


if __name__ == "__main__":
    unittest.main()
