"""[7]: sources, spreads, marks, looks, terms and TELLINGS."""

import unittest

import predicates
from anydlooks.askings import least_terms
from anydlooks.errors import NoLine, Unfit
from anydlooks.forms import (
    form_told, is_looks, is_mark, is_telling, looks_of, marks_at, played, price_of, row_form, secrets_of, seen_by,
    shown, sources, spreads_at, sum_shown, written,
)
from anydlooks.programs import is_program
from anydlooks.runs import lines_of
from reckon import (
    Play, all_marks, all_terms, clean_program, count_terms, form_of_spread, length_of, line_terms, nest, price, rng_of,
    rows_of, secrets_by, some_runs, source_count, spread, things_like, unit,
)
from samples import bus, deep, plain, renew, thrice, turned


def cases(seed, many, lines=6, most=4, **more):
    """Some pairs of a clean PROGRAM and a RUN of it."""
    rng = rng_of(seed)
    for _ in range(many):
        program = clean_program(rng, **more)
        runs = some_runs(program, lines, 5, 30)
        for run in rng.sample(runs, min(most, len(runs))):
            yield rng, program, run


def random_terms(rng, program, lines):
    found = ()
    for number in range(len(lines)):
        found += rng.choice(line_terms(program, lines, number))
    return found


class Spreads(unittest.TestCase):

    def test_sources_and_spreads(self):
        for rng, program, run in cases(1, 150):
            play = Play(program, run)
            parts = [("part", slot) for own in program[1] for slot in own]
            draws = [("draw", k) for k, line in enumerate(play.lines) if line[0] == "draw"]
            self.assertEqual(sources(program, run), tuple(parts + draws))
            length = source_count(program, run)
            plays = [Play(program, run, unit(length, place)) for place in range(length)]
            self.assertEqual(written(program, run), tuple(
                tuple(own.wrote[k] for own in plays) for k in range(len(play.lines))))
            for number in range(len(play.lines) + 1):
                lying = [sum(own.ahead[number], ()) for own in plays]
                self.assertEqual(spreads_at(program, run, number), tuple(
                    tuple(own[place] for own in lying) for place in range(length_of(program[0]))))

    def test_numbers(self):
        for rng, program, run in cases(2, 150):
            prime = program[0][0]
            for _ in range(4):
                values = tuple(rng.randrange(prime) for _ in range(source_count(program, run)))
                play = Play(program, run, values)
                self.assertEqual(played(program, run, values), tuple(play.wrote))
                self.assertEqual(secrets_of(program, run, values), secrets_by(program, values))
                looks = tuple(mark for mark, _ in random_terms(rng, program, play.lines))
                self.assertEqual(seen_by(program, run, looks, values), tuple(play.shown(mark) for mark in looks))
                self.assertEqual(seen_by(program, run, (), values), ())

    def test_shown(self):
        for rng, program, run in cases(3, 120):
            prime, lines = program[0][0], Play(program, run).lines
            for number in range(len(lines)):
                marks = all_marks(program, lines, number)
                self.assertEqual(marks_at(program, run, number), tuple(marks))
                for mark in rng.sample(marks, min(6, len(marks))):
                    self.assertEqual(shown(program, run, mark), spread(program, run, lambda play: play.shown(mark)))
            terms = random_terms(rng, program, lines)
            wanted = spread(program, run, lambda play: sum(own * play.shown(mark) for mark, own in terms) % prime)
            self.assertEqual(sum_shown(program, run, terms), wanted)
            self.assertEqual(looks_of(terms), tuple(mark for mark, _ in terms))
            self.assertEqual(price_of(program[0], looks_of(terms)), price(program, terms))

    def test_row_forms(self):
        for rng, program, run in cases(4, 80, lines=3, most=2):
            prime, length = program[0][0], source_count(program, run)
            every = rows_of(prime, length) if prime ** length <= 300 else [
                tuple(rng.randrange(prime) for _ in range(length)) for _ in range(300)]
            for row in every:
                form = form_of_spread(program, row)
                if not any(row):
                    form = (0,) * len(program[1])
                self.assertEqual(row_form(program, run, row), form)
                self.assertEqual(row_form(program, list(run), list(row)), form)

    def test_edges(self):
        self.assertEqual(sum_shown(bus, (), ()), (0, 0))
        self.assertEqual((looks_of(()), price_of(plain_machine(), ()), looks_of([])), ((), 0, ()))
        self.assertEqual((written(turned, (0,)), played(turned, (0,), (1, 0, 1))), ((), ()))
        self.assertEqual(spreads_at(turned, (0,), 0), ((1, 0, 0), (0, 1, 0), (0, 0, 1), (0, 0, 0)))
        self.assertEqual(spreads_at(bus, (), 2)[4], (0, 1))
        self.assertIs(is_looks(turned, (0,), ()), True)


def plain_machine():
    return deep[0]


class Things(unittest.TestCase):

    def test_marks(self):
        for rng, program, run in cases(5, 40, most=2):
            lines = Play(program, run).lines
            for number in range(len(lines)):
                marks = all_marks(program, lines, number)
                for mark in rng.sample(marks, min(3, len(marks))):
                    self.assertIs(is_mark(program, run, mark), True)
                    for thing in things_like(mark):
                        self.assertIs(is_mark(program, run, thing), predicates.mark(program, lines, thing), thing)

    def test_looks(self):
        for rng, program, run in cases(6, 50, most=2, lines=4):
            lines = Play(program, run).lines
            looks = tuple(mark for mark, _ in random_terms(rng, program, lines))
            self.assertIs(is_looks(program, run, looks), True)
            for thing in things_like(looks):
                self.assertIs(is_looks(program, run, thing), predicates.looks(program, lines, thing), thing)
            for number in range(len(lines)):
                every = tuple(all_marks(program, lines, number))
                self.assertIs(is_looks(program, run, every), predicates.looks(program, lines, every))

    def test_reads(self):
        self.assertFalse(is_looks(thrice, (), ((0, "read", (0, 1)), (0, "read", (1, 0)))))
        self.assertTrue(is_looks(thrice, (), ((0, "put"), (0, "read", (2, 2)), (0, "turn"))))
        for row in ((0, 0), (1,), (1, 0, 0), (3, 0), (True, 0), [1, 0], None, "12", 1, (-1, 0)):
            self.assertFalse(is_mark(thrice, (), (0, "read", row)), row)
        for thing in ((0, "pass"), (0, "look"), (0,), (), (0, "put", ()), (0, "read"), (1, "put"), (-1, "put"), (10 ** 30, "put"),
                      (False, "put"), [0, "put"], (0, None), (0, ["put"]), (0, ("put",)), None, "put", 0, nest(30)):
            self.assertFalse(is_mark(thrice, (), thing), thing)
        clear = (thrice[0], thrice[1], ((("set", 1, ()), ("draw", 0)),))
        self.assertEqual(marks_at(clear, (), 0), ((0, "put"), (0, "turn")))
        self.assertFalse(is_mark(clear, (), (0, "read", ())))
        self.assertFalse(is_mark(clear, (), (1, "read", (1,))))


class Errors(unittest.TestCase):

    def test_runs_first(self):
        calls = [lambda run: sources(deep, run), lambda run: written(deep, run), lambda run: spreads_at(deep, run, 99),
                 lambda run: is_mark(deep, run, None), lambda run: marks_at(deep, run, 99),
                 lambda run: is_looks(deep, run, ()), lambda run: shown(deep, run, (0, "put")),
                 lambda run: sum_shown(deep, run, ()), lambda run: row_form(deep, run, (0, 0)),
                 lambda run: played(deep, run, (0, 0)), lambda run: seen_by(deep, run, (), (0, 0)),
                 lambda run: secrets_of(deep, run, (0, 0))]
        for call in calls:
            for run in ((1,), (), (0, 0), (7,), [1, 1]):
                with self.assertRaises(Unfit):
                    call(run)

    def test_no_line(self):
        for number in (-1, 2, 3, 10 ** 30):
            with self.assertRaises(NoLine) as caught:
                marks_at(bus, (), number)
            self.assertEqual(vars(caught.exception), {"number": number})
            if number != 2:
                with self.assertRaises(NoLine) as caught:
                    spreads_at(bus, (), number)
                self.assertEqual(vars(caught.exception), {"number": number})

    def test_unfit(self):
        for mark in ((2, "put"), (0, "read", (1,)), (0, "look"), (-1, "put")):
            with self.assertRaises(Unfit):
                shown(bus, (), mark)
            with self.assertRaises(Unfit):
                sum_shown(bus, (), ((mark, 1),))
            with self.assertRaises(Unfit):
                seen_by(bus, (), (mark,), (0, 0))
        put = (0, "put")
        for terms in (((put, 0),), ((put, 2),), ((put, 1), (put, 1)), (((1, "put"), 1), (put, 1)), ((put, True),), (put,)):
            with self.assertRaises(Unfit):
                sum_shown(bus, (), terms)
        for looks in (((1, "put"), put), (put, put)):
            with self.assertRaises(Unfit):
                seen_by(bus, (), looks, (0, 0))


class Tellings(unittest.TestCase):

    def check(self, program, run, terms):
        """Tells form_told, having compared it with the spread."""
        form = form_of_spread(program, sum_shown(program, run, terms)) if terms else None
        self.assertIs(is_telling(program, (run, terms)), form is not None, (program, run, terms))
        if form is None:
            with self.assertRaises(Unfit):
                form_told(program, (run, terms))
        else:
            self.assertEqual(form_told(program, (run, terms)), form)
            self.assertEqual(form_told(program, [list(run), [[list(mark), own] for mark, own in terms]]), form)
            self.assertIs(is_telling(program, [run, terms]), False)
        return form is not None

    def test_all_terms(self):
        told = 0
        for rng, program, run in cases(7, 250, lines=4, most=2):
            lines = Play(program, run).lines
            if count_terms(program, lines) <= 256:
                for terms in all_terms(program, lines):
                    told += self.check(program, run, terms)
        self.assertGreater(told, 300)

    def test_long_runs(self):
        told, rng = 0, rng_of(8)
        words = ("set", "set", "draw", "call", "many")
        for _ in range(250):
            program = clean_program(rng, words=words, size=3)
            runs = [run for run in some_runs(program, 6, 3, 30)]
            for run in rng.sample(runs, min(3, len(runs))):
                run = tuple(number * rng.choice((1, 1, 3, 9)) for number in run)
                try:
                    lines = lines_of(program, run)
                except Unfit:
                    continue
                if len(lines) > 80:
                    continue
                best = None
                if len(lines) <= 30 and program[0][0] ** length_of(program[0]) <= 27 and not any(
                        line[0] == "back" for line in lines):
                    best = least_terms(program, run)
                if best is not None:
                    self.assertTrue(self.check(program, run, best))
                    told += 1
                    self.check(program, run, best[1:])
                for _ in range(5):
                    some = random_terms(rng, program, lines)
                    self.check(program, run, tuple(own for own in some if rng.random() < 0.2))
        self.assertGreater(told, 30)

    def test_huge_runs(self):
        turn = (2, "turn")
        for rounds in (10 ** 3, 10 ** 9, 10 ** 30):
            for first in (0, 1, 7, rounds // 3, rounds - 1):
                at = 4 * first
                good = ((rounds,), (((at, "put"), 1), ((at + turn[0], "turn"), 1)))
                self.assertIs(is_telling(turned, good), True)
                self.assertEqual(form_told(turned, good), (1,))
                self.assertIs(is_telling(turned, ((rounds,), good[1][:1])), False)
                if rounds > 1 and first < rounds - 1:
                    # Part b again, a round later.
                    self.assertEqual(is_telling(turned, ((rounds,), (((at + 1, "turn"), 1), ((at + 5, "put"), 1)))), True)
            self.assertIs(is_telling(turned, ((rounds,), (((4 * rounds, "put"), 1), ((4 * rounds + 2, "turn"), 1)))), False)
            self.assertIs(is_telling(turned, ((rounds,), (((-4, "put"), 1), ((-2, "turn"), 1)))), False)

    def test_rounds_behind_lines(self):
        machine = (2, (None,) * 3, (("put", 1), ("read", 1)))
        body = (("set", 2, ()), ("draw", 2), ("set", 2, ((0, 1), (1, 1))))
        for ahead in (0, 1, 2, 5):
            program = (machine, ((0, 1),), ((("draw", 2),) * ahead + (("many", body), ("set", 2, ())),))
            for rounds in (1, 5, 10 ** 20):
                for turn in {0, rounds // 2, rounds - 1}:
                    for place in range(3):
                        at = ahead + 3 * turn + place
                        self.assertIs(is_telling(program, ((rounds,), (((at, "put"), 1),))), place == 2)
                        self.assertIs(is_telling(program, ((rounds,), (((at, "read", (1, 1)), 1),))), place == 2)
                        self.assertIs(is_telling(program, ((rounds,), (((at, "read", (1, 0)), 1),))), False)
                        self.assertIs(is_telling(program, ((rounds,), (((at, "read", ()), 1),))), False)
                at = ahead + 3 * rounds
                self.assertIs(is_telling(program, ((rounds,), (((at, "read", (1, 1)), 1),))), False)
                self.assertIs(is_telling(program, ((rounds,), (((2 + ahead, "put"), 1), ((at, "put"), 1)))), True)
                self.assertIs(is_telling(program, ((rounds,), (((2 + ahead, "put"), 1), ((at + 1, "put"), 1)))), False)

    def test_rounds_that_come_back(self):
        # Each round exchanges the parts and clears register 2; what is asked of that is asked no more.
        body = (("set", 2, ()), ("set", 3, ((0, 1),)), ("set", 0, ((1, 1),)), ("set", 1, ((3, 1),)))
        program = ((2, (None,) * 4, plain), ((0, 1),), ((("many", body), ("set", 2, ((0, 1), (2, 1)))),))
        for rounds in (1, 2, 3, 4, 7, 10 ** 30, 10 ** 30 + 1):
            odd = rounds % 2 == 1
            for turn in {0, rounds - 1, rounds // 2}:
                terms = (((4 * turn + 1, "put"), 1), ((4 * rounds, "put"), 1))
                self.assertIs(is_telling(program, ((rounds,), terms)), (rounds - turn) % 2 == 1)
            terms = (((1, "put"), 1), ((4 * rounds, "put"), 1))
            self.assertIs(is_telling(program, ((rounds,), terms)), odd)
            if rounds < 8:
                self.check(program, (rounds,), terms)

    def test_many_calls(self):
        machine = (2, (None,) * 3, plain)
        step = (("set", 2, ((0, 1), (2, 1))), ("set", 0, ((1, 1),)), ("set", 1, ((2, 1),)))
        blocks = [((("call", 1, (2,)),) * 8), ((("call", 2, ()),) * 8), ((("call", 3, (0, 1)),) * 8),
                  ((("call", 4, ()),) * 8), step]
        program = (machine, ((0, 1),), tuple(tuple(own) for own in blocks))
        size = [0] * 5
        size[4] = 3
        for number, kept in ((3, 0), (2, 2), (1, 0), (0, 1)):
            size[number] = 8 * (size[number + 1] + kept)
        lines = size[0]
        self.assertIs(is_telling(program, ((), (((0, "put"), 1),))), False)
        self.assertIs(is_telling(program, ((), (((lines, "put"), 1),))), False)
        self.assertIs(is_telling(program, ((), (((lines - 1, "put"), 1),))), False)
        # What the whole does is played here on its own.
        slots, wrote = [[1, 0], [0, 1], [0, 0]], []

        def write(slot, value):
            wrote.append((slot, value, list(slots)))
            slots[slot] = value

        def go(number):
            for item in program[2][number]:
                if item[0] == "call":
                    held = list(slots)
                    go(item[1])
                    for slot in item[2]:
                        write(slot, held[slot])
                else:
                    write(item[1], [sum(slots[slot][k] for slot, _ in item[2]) % 2 for k in (0, 1)])
        go(0)
        self.assertEqual(len(wrote), lines)
        told = 0
        for number in list(range(60)) + list(range(lines // 2, lines // 2 + 60)) + list(range(lines - 60, lines)):
            slot, value, ahead = wrote[number]
            self.assertIs(is_telling(program, ((), (((number, "put"), 1),))), value == [1, 1])
            turn = [(a - b) % 2 for a, b in zip(value, ahead[slot])]
            self.assertIs(is_telling(program, ((), (((number, "turn"), 1),))), turn == [1, 1])
            told += value == [1, 1]
        self.assertGreater(told, 5)

    def test_deep_calls(self):
        again = (("draw", 2), ("set", 0, ((0, 1), (2, 1))), ("set", 1, ((1, 1), (2, 1))), ("call", 0, (2,)))
        ring = (deep[0], deep[1], ((("one", ((), again)),),))
        self.assertTrue(is_program(ring))
        many = 3000
        run = (1,) * many + (0,)
        self.assertIs(is_telling(ring, (run, (((3 * many - 2, "put"), 1), ((3 * many - 1, "put"), 1)))), True)
        self.assertIs(is_telling(ring, (run, (((1, "put"), 1), ((3 * many - 1, "put"), 1)))), False)
        self.assertIs(is_telling(ring, (run, (((4 * many, "put"), 1), ((3 * many - 1, "put"), 1)))), False)

    def test_things(self):
        samples = [(bus, ((), (((1, "pass"), 1),))), (thrice, ((), (((0, "turn"), 2),))),
                   (deep, ((1, 0), (((1, "put"), 1), ((2, "put"), 1)))), (bus, ((), (((0, "put"), 1), ((1, "put"), 1)))),
                   (thrice, ((), (((0, "read", (1, 1)), 2),)))]
        for program, sample in samples:
            self.assertIs(is_telling(program, sample), True)
            for thing in things_like(sample):
                wanted = False
                if type(thing) is tuple and len(thing) == 2:
                    lines = predicates.lines_if_run(program, thing[0])
                    if lines is not None and predicates.terms(program, lines, thing[1]):
                        wanted = form_of_spread(program, sum_shown(program, *thing)) is not None
                self.assertIs(is_telling(program, thing), wanted, thing)
        for thing in (None, True, 0, "", (), [], ((), ()), ((),), (1, 2), ((), 0), (None, None), nest(30), ((), nest(28))):
            self.assertIs(is_telling(bus, thing), False)
        with self.assertRaises(Unfit):
            form_told(bus, ((), ()))


if __name__ == "__main__":
    unittest.main()
