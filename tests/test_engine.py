"""[23]: an Engine beside what the LINES of its RUN write, and a book beside all parts and draws that fit."""

import copy
import itertools
import unittest

from anydlooks.chances import secrets_left, told_forms
from anydlooks.engine import Engine
from anydlooks.errors import NoLine, NothingDone, Unfit
from anydlooks.forms import seen_by
from anydlooks.runs import finished, is_run, lines_of, sure_lines
from reckon import (
    Play, all_marks, clean_program, price, rng_of, rows_of, secrets_by, things_like,
)
from samples import bus, deep, fork, masked, plain, renew, thrice, tiny, turned, twin


def random_shares(rng, program):
    return tuple(tuple(rng.randrange(program[0][0]) for _ in own) for own in program[1])


def answer(rng, engine, prime, times=2):
    """Answers what is wanted by something that can be."""
    wanted = engine.wants()
    if wanted[0] == "draw":
        number = rng.randrange(prime)
        engine.draw(number)
    else:
        number = rng.randrange(wanted[1]) if wanted[0] == "one" else rng.randint(0, times)
        engine.choose(number)
    return wanted[0], number


def gone(rng, program, steps=12, lines=30):
    """An Engine gone along for some steps, and its shares."""
    shares = random_shares(rng, program)
    engine = Engine(program, shares)
    for _ in range(rng.randint(0, steps)):
        if engine.wants() is None or len(engine.lines()) > lines:
            break
        answer(rng, engine, program[0][0])
    return engine, shares


def values_of(shares, drawn):
    return [residue for own in shares for residue in own] + list(drawn)


def again(program, shares, deeds):
    """A new Engine at which these deeds are done."""
    engine = Engine(program, shares)
    for word, what in deeds:
        {"choose": engine.choose, "draw": engine.draw, "look": engine.look}[word](what)
    return engine


def state(engine):
    """All that an Engine tells."""
    return (engine.wants(), engine.run(), engine.drawn(), engine.lines(), engine.registers(), engine.buses(), engine.secrets(),
            engine.book(), engine.spent(), engine.sure(), engine.fitting())


def some_looks(rng, engine, program, many):
    """Looks at marks of LINES done; returns them with what they showed."""
    found, lines = [], engine.lines()
    for _ in range(many):
        if not lines:
            break
        marks = all_marks(program, lines, rng.randrange(len(lines)))
        if not marks:
            continue
        mark = rng.choice(marks)
        if mark[:2] not in [own[:2] for own, _ in found]:
            found.append((mark, engine.look(mark)))
    return found


def small_program(rng):
    while True:
        program = clean_program(rng)
        if sum(map(len, program[1])) <= 4:
            return program


class Going(unittest.TestCase):

    def test_at_the_end(self):
        """At the end of a RUN all is as the LINES write it."""
        rng, ended = rng_of(1), 0
        while ended < 150:
            program = clean_program(rng)
            engine, shares = gone(rng, program, 20)
            if engine.wants() is not None:
                continue
            ended += 1
            run = engine.run()
            self.assertIs(is_run(program, run), True)
            play = Play(program, run, values_of(shares, engine.drawn()))
            self.assertEqual(tuple(engine.lines()), lines_of(program, run))
            self.assertEqual(engine.lines(), play.lines)
            self.assertEqual((engine.registers(), engine.buses()), (tuple(play.slots), tuple(play.buses)))
            self.assertEqual(len(engine.drawn()), play.draws)
            self.assertEqual(engine.secrets(), secrets_by(program, values_of(shares, ())))

    def test_on_the_way(self):
        """What is done so far is what all RUNS begin with that are told so; then something is wanted."""
        rng, words = rng_of(2), {"one": 0, "many": 0, "draw": 0}
        for _ in range(400):
            program = clean_program(rng)
            engine, shares = gone(rng, program, 8)
            wanted = engine.wants()
            if wanted is None:
                continue
            words[wanted[0]] += 1
            run, done = finished(program, engine.run()), len(engine.lines())
            play = Play(program, run, values_of(shares, engine.drawn()))
            self.assertEqual(engine.lines(), play.lines[:done])
            self.assertEqual((engine.registers(), engine.buses()), play.ahead[done])
            if wanted[0] == "draw":
                self.assertEqual(play.lines[done], ("draw", wanted[1], ()))
                self.assertEqual(len(wanted), 2)
            else:
                self.assertEqual(sure_lines(program, engine.run()), done)
                path, _, lines = play.choices[len(engine.run())]
                self.assertEqual(lines, done)
                self.assertEqual(wanted, ("many",) if item_by(program, path)[0] == "many" else ("one", len(item_by(program, path)[1])))
        self.assertGreater(min(words.values()), 20)

    def test_go_on(self):
        """Answers at once and one by one come to the same."""
        rng, less = rng_of(3), 0
        for _ in range(150):
            program = clean_program(rng)
            shares = random_shares(rng, program)
            one, answers = Engine(program, shares), []
            for _ in range(rng.randint(0, 10)):
                if one.wants() is None:
                    break
                answers.append(answer(rng, one, program[0][0]))
            choices = [number for word, number in answers if word != "draw"]
            draws = [number for word, number in answers if word == "draw"]
            other = Engine(program, shares)
            self.assertEqual(other.go_on(choices, tuple(draws)), (len(choices), len(draws)))
            self.assertEqual(state(other), state(one))
            self.assertEqual(other, one)
            if one.wants() is None:
                other = Engine(program, shares)
                self.assertEqual(other.go_on(choices + [7, "x"], draws + [9]), (len(choices), len(draws)))
                self.assertEqual(other, one)
                less += 1
            for _ in answers:
                other.undo()
            self.assertEqual(state(other), state(Engine(program, shares)))
            with self.assertRaises(NothingDone):
                other.undo()
        self.assertGreater(less, 30)

    def test_go_on_stops(self):
        engine = Engine(deep, ((1, 1),))
        self.assertEqual(engine.go_on((1, 1, 1), (0,)), (2, 1))
        self.assertEqual((engine.wants(), engine.run()), (("draw", 2), (1, 1)))
        self.assertEqual(engine.go_on((), ()), (0, 0))
        self.assertEqual(engine.go_on((0, 0), (1, 0)), (1, 1))
        self.assertEqual((engine.wants(), engine.run(), engine.drawn()), (None, (1, 1, 0), (0, 1)))
        self.assertEqual(engine.go_on((0,), (1,)), (0, 0))

    def test_go_on_refused(self):
        """What cannot be taken: nothing is done, and all can be taken back as ahead."""
        rng = rng_of(4)
        for program in (deep, masked, renew, turned, tiny, fork):
            for choices, draws in (((1, 2), (1,)), ((1, -1), (1, 1, 1, 1, 1)), ((1, None), (0, 1)), ((True,), ()), ((1, 1), (0, 2)), ((1, "1"), (0, 1)),
                                   ((1, (0,)), (1, 0)), ((), (2,)), ((0, 0), (0, True)), ((2, 1), (0, 0, None)), ((10 ** 30,), (9,))):
                if program == turned and choices[:1] == (10 ** 30,):
                    continue
                engine = Engine(program, random_shares(rng, program))
                shares, before = engine.twin(), state(engine)
                try:
                    engine.go_on(choices, draws)
                except Unfit as error:
                    self.assertEqual(vars(error), {})
                    self.assertEqual(state(engine), before)
                    self.assertEqual(engine, shares)
                    with self.assertRaises(NothingDone):
                        engine.undo()
        engine = Engine(deep, ((0, 1),))
        engine.choose(1)
        for _ in range(2):
            with self.assertRaises(Unfit):
                engine.go_on((1, 1, 5), (0, 1, 1))
            self.assertEqual((engine.run(), engine.drawn(), engine.wants()), ((1,), (), ("draw", 2)))
        engine.undo()
        self.assertEqual(engine.wants(), ("one", 2))

    def test_many_times_nothing(self):
        """Times round in which nothing is written or wanted take no time."""
        for way, blocks in (((), ()), ((("call", 1, ()),), (((("call", 2, ())),) * 3, ())), ((("many", ()),), ())):
            program = (2, (None, None), plain), ((0, 1),), ((("many", way), ("set", 0, ())), *blocks)
            engine = Engine(program, ((1, 0),))
            if way == (("many", ()),):
                engine.choose(10 ** 30)
                for _ in range(5):
                    engine.choose(10 ** 40)
                self.assertEqual((engine.wants(), engine.lines()), (("many",), []))
                engine.undo()
                self.assertEqual(engine.run(), (10 ** 30, *[10 ** 40] * 4))
            else:
                engine.choose(10 ** 30)
                self.assertEqual((engine.wants(), engine.run(), engine.registers()), (None, (10 ** 30,), (0, 0)))

    def test_long_runs(self):
        """Longer than the bounds of RUNS."""
        engine = Engine(turned, ((1, 0, 0),))
        engine.choose(300)
        self.assertEqual((len(engine.lines()), engine.registers()), (1200, (1, 0, 0, 0)))
        self.assertEqual(engine.look((1199, "put")), 0)
        self.assertEqual(engine.sure(), ())
        engine = Engine(masked, ((1, 1),))
        engine.go_on((60,), (1, 0) * 29)
        self.assertEqual((engine.wants(), len(engine.drawn())), (("draw", 2), 58))
        ring = (2, (None, 0), (("put", 1),)), ((0, 1),), ((("one", ((), (("set", 1, ((0, 1), (1, 1))), ("call", 0, (0,))))),),)
        engine = Engine(ring, ((1, 0),))
        engine.go_on((1,) * 400 + (0,), ())
        self.assertEqual((engine.wants(), len(engine.lines()), engine.lines()[-1]), (None, 800, ("back", 0, 1)))
        self.assertEqual((engine.registers(), engine.buses()), ((1, 0), (0,)))


def item_by(program, path):
    way, rest = program[2][path[0]], list(path[1:])
    while True:
        item = way[rest.pop(0)]
        if not rest:
            return item
        way = item[1][rest.pop(0)] if item[0] == "one" else item[1]


def frozen_by(thing):
    return tuple(frozen_by(own) for own in thing) if isinstance(thing, (list, tuple)) else thing


class Looking(unittest.TestCase):

    def test_looks(self):
        rng, words = rng_of(5), {}
        for _ in range(200):
            program = clean_program(rng)
            engine, shares = gone(rng, program)
            found = some_looks(rng, engine, program, 6)
            play = Play(program, finished(program, engine.run()), values_of(shares, engine.drawn()))
            for mark, shown in found:
                self.assertEqual(shown, play.shown(mark), (program, mark))
                words[mark[1]] = words.get(mark[1], 0) + 1
            self.assertEqual(engine.book(), tuple(sorted(found)))
            self.assertEqual(engine.spent(), price(program, found))
        self.assertGreater(min(words.get(word, 0) for word in ("pass", "put", "read", "turn")), 20)

    def test_shown_less(self):
        """What is shown is one less another, not their sum: p above 2."""
        program = (5, (None, 0, 0), (("pass", 1), ("read", 1), ("turn", 1))), ((0, 1),), ((("set", 2, ((0, 3), (1, 1))), ("set", 1, ((0, 1),))),)
        engine = Engine(program, ((4, 2),))
        self.assertEqual((engine.registers(), engine.buses()), ((4, 4, 4), (4,)))
        shown = ((0, "pass"), 4), ((0, "read", (1, 4)), 2), ((0, "turn"), 4), ((1, "pass"), 0), ((1, "read", (2,)), 3), ((1, "turn"), 2)
        for mark, residue in shown:
            self.assertEqual(engine.look(mark), residue, mark)
        self.assertEqual(engine.book(), shown)

    def test_sure(self):
        """Beside all parts and draws of this RUN so far by which the marks show what they did."""
        rng, tried, sures = rng_of(6), 0, 0
        while tried < 300:
            program = small_program(rng)
            engine, shares = gone(rng, program, 6, 8)
            prime, count = program[0][0], sum(map(len, shares)) + len(engine.drawn())
            if prime ** count > 300:
                continue
            found = some_looks(rng, engine, program, 5)
            run = finished(program, engine.run())
            left = set()
            for values in itertools.product(range(prime), repeat=count):
                play = Play(program, run, values)
                if all(play.shown(mark) == shown for mark, shown in found):
                    left.add(secrets_by(program, values))
            wanted = []
            for form in rows_of(prime, len(shares)):
                told = {sum(a * b for a, b in zip(form, own)) % prime for own in left}
                if any(form) and len(told) == 1:
                    wanted.append((form, told.pop()))
            self.assertEqual(engine.sure(), tuple(wanted), program)
            self.assertEqual(engine.fitting(), len(left))
            self.assertIn(engine.secrets(), left)
            tried += 1
            sures += bool(wanted)
        self.assertGreater(sures, 20)

    def test_beside_chances(self):
        """At the end of a RUN: what [8] tells of its LOOKS."""
        rng, ended = rng_of(7), 0
        while ended < 80:
            program = clean_program(rng)
            engine, shares = gone(rng, program, 9, 8)
            if engine.wants() is not None:
                continue
            some_looks(rng, engine, program, 6)
            looks, shown = tuple(own for own, _ in engine.book()), tuple(own for _, own in engine.book())
            run, values = engine.run(), values_of(shares, engine.drawn())
            self.assertEqual(seen_by(program, run, looks, values), shown)
            self.assertEqual(engine.fitting(), len(secrets_left(program, run, looks, shown)))
            self.assertIn(engine.secrets(), secrets_left(program, run, looks, shown))
            basis = told_forms(program, run, looks)
            self.assertEqual(len(engine.sure()), program[0][0] ** len(basis) - 1)
            self.assertTrue(set(basis) <= {form for form, _ in engine.sure()})
            ended += 1

    def test_two_secrets(self):
        engine = Engine(twin, ((1, 0), (1, 1)))
        for mark, shown, sure, fitting in (((0, "put"), 0, (), 4), ((2, "put"), 1, (), 4), ((3, "put"), 1, (((0, 1), 0),), 2),
                                           ((1, "put"), 0, (((0, 1), 0), ((1, 0), 1), ((1, 1), 1)), 1)):
            self.assertEqual((engine.look(mark), engine.sure(), engine.fitting()), (shown, sure, fitting))
        for fitting in (2, 4, 4, 4):
            engine.undo()
            self.assertEqual(engine.fitting(), fitting)

    def test_reads(self):
        engine = Engine(thrice, ((2, 1),))
        self.assertEqual(engine.look((0, "read", (2, 1))), 2)
        self.assertEqual((engine.spent(), engine.sure(), engine.book()), (2, (), (((0, "read", (2, 1)), 2),)))
        for mark in ((0, "read", (1, 1)), (0, "read", (2, 1))):
            with self.assertRaises(Unfit):
                engine.look(mark)
        self.assertEqual((engine.look((0, "turn")), engine.sure()), (0, (((1,), 0), ((2,), 0))))

    def test_more_draws(self):
        """Draws that come later are parts of what a book leaves open, too; the book stays."""
        engine = Engine(deep, ((1, 0),))
        engine.go_on((1, 1), (1, 0))
        self.assertEqual([engine.look(mark) for mark in ((1, "put"), (2, "put"))], [0, 1])
        self.assertEqual(engine.sure(), (((1,), 1),))
        engine.choose(0)
        self.assertEqual((engine.sure(), engine.fitting()), ((((1,), 1),), 1))

    def test_look_things(self):
        """Each mark that is none: NoLine or Unfit, and nothing is done."""
        for program, answers in ((deep, ((1, 0), (1,))), (bus, ((), ())), (thrice, ((), ())), (masked, ((1,), (1,)))):
            engine = Engine(program, tuple((0,) * len(own) for own in program[1]))
            engine.go_on(*answers)
            lines, before = engine.lines(), state(engine)
            good = {mark for number in range(len(lines)) for mark in all_marks(program, lines, number)}
            for start in sorted(good):
                for thing in things_like(start):
                    own = engine.twin()
                    thing = frozen_by(thing)
                    if type(thing) is tuple and repr(thing) in {repr(mark) for mark in good}:
                        own.look(thing)
                        own.undo()
                        self.assertEqual(state(own), before)
                        continue
                    number = type(thing) is tuple and thing != () and type(thing[0]) is int and not 0 <= thing[0] < len(lines)
                    with self.assertRaises(NoLine if number else Unfit) as caught:
                        own.look(thing)
                    self.assertEqual(vars(caught.exception), {"number": thing[0]} if number else {})
                    self.assertEqual(state(own), before)

    def test_errors(self):
        engine = Engine(deep, ((1, 0),))
        before = state(engine)
        for number in (0, 1, -1, None, "x", 10 ** 30):
            with self.assertRaises(NothingDone):
                engine.draw(number)
        for number in (2, -1, 10 ** 30, -10 ** 30, None, True, False, "1", (), (1,), [0]):
            with self.assertRaises(Unfit):
                engine.choose(number)
        self.assertEqual(state(engine), before)
        engine.choose(1)
        for number in (2, -1, 10 ** 30, None, True, "0", (), [1]):
            with self.assertRaises(Unfit):
                engine.draw(number)
            with self.assertRaises(NothingDone):
                engine.choose(number)
        engine = Engine(turned, ((1, 0, 1),))
        for number in (-1, None, True, "0", (), [1], (1,)):
            with self.assertRaises(Unfit):
                engine.choose(number)
        engine.choose(0)
        for call in (engine.choose, engine.draw):
            with self.assertRaises(NothingDone) as caught:
                call(0)
            self.assertEqual(vars(caught.exception), {})
        for mark, error in (((4, "put"), NoLine), ((0, "put"), NoLine), ((-1, "put"), NoLine), ((10 ** 30, "strange"), NoLine)):
            with self.assertRaises(error):
                engine.look(mark)

    def test_no_line_yet(self):
        engine = Engine(deep, ((1, 0),))
        engine.choose(1)
        with self.assertRaises(NoLine):
            engine.look((0, "put"))
        engine.draw(1)
        self.assertEqual(engine.look((2, "put")), 1)
        with self.assertRaises(NoLine) as caught:
            engine.look([3, "put"])
        self.assertEqual(vars(caught.exception), {"number": 3})

    def test_shares(self):
        for program in (deep, renew, twin, thrice):
            shares = tuple((0,) * len(own) for own in program[1])
            Engine(program, shares)
            for thing in things_like(shares):
                own = frozen_by(thing)
                good = (type(own) is tuple and len(own) == len(program[1]) and all(
                    type(more) is tuple and len(more) == len(parts) and all(type(k) is int and 0 <= k < program[0][0] for k in more)
                    for more, parts in zip(own, program[1])))
                if good:
                    Engine(program, thing)
                else:
                    with self.assertRaises(Unfit):
                        Engine(program, thing)


class Taking(unittest.TestCase):

    def test_taken_back(self):
        """One by one, beside a new Engine each time; twins go their own way."""
        rng = rng_of(8)
        for _ in range(60):
            program = clean_program(rng)
            shares, deeds = random_shares(rng, program), []
            engine = Engine(program, shares)
            for _ in range(rng.randint(1, 14)):
                word = rng.random()
                if word < 0.3 and deeds:
                    engine.undo()
                    deeds.pop()
                elif word < 0.6 and engine.lines():
                    found = some_looks_once(rng, engine, program)
                    deeds += [("look", own) for own in found]
                elif engine.wants() is not None and len(engine.lines()) < 30:
                    own, number = answer(rng, engine, program[0][0])
                    deeds.append(("draw" if own == "draw" else "choose", number))
                new = again(program, shares, deeds)
                self.assertEqual(state(engine), state(new))
                self.assertIs(engine == new, True)
                if rng.random() < 0.3:
                    engine, old = engine.twin(), engine
                    before = state(engine)
                    for _ in range(rng.randint(0, len(deeds))):
                        old.undo()
                    self.assertEqual(state(engine), before)
            while deeds:
                engine.undo()
                deeds.pop()
                self.assertEqual(state(engine), state(again(program, shares, deeds)))
            with self.assertRaises(NothingDone):
                engine.undo()

    def test_equal(self):
        one, other = Engine(deep, ((1, 0),)), Engine([list(own) for own in deep], [[1, 0]])
        self.assertIs(one == other, True)
        self.assertIs(one != other, False)
        one.choose(1)
        self.assertIs(one == other, False)
        self.assertIs(one != other, True)
        other.choose(1)
        one.draw(1)
        other.draw(0)
        self.assertIs(one == other, False)
        other.undo()
        other.draw(1)
        self.assertIs(one == other, True)
        for mark in ((1, "put"), (2, "put")):
            one.look(mark)
        for mark in ((2, "put"), (1, "put")):
            self.assertIs(one == other, False)
            other.look(mark)
        self.assertIs(one == other, True)
        self.assertIs(Engine(deep, ((0, 1),)) == Engine(deep, ((1, 0),)), False)
        self.assertIs(Engine(bus, ((0, 1),)) == Engine((bus[0], bus[1], ((),)), ((0, 1),)), False)
        self.assertIs(one == deep, False)

    def test_what_is_told_is_the_callers(self):
        program, shares = [list(own) for own in deep], [[1, 0]]
        engine = Engine(program, shares)
        program.clear()
        shares[0].append(5)
        before = state(engine)
        engine.lines().append("more")
        choices, draws = [1, 0], [1]
        given = copy.deepcopy((choices, draws))
        self.assertEqual(state(engine), before)
        engine.go_on(choices, draws)
        self.assertEqual((choices, draws), given)
        mark = [1, "put"]
        engine.look(mark)
        mark[0] = 2
        self.assertEqual(engine.book(), (((1, "put"), 0),))
        lines = engine.lines()
        lines.pop()
        self.assertEqual(len(engine.lines()), 5)
        read = [0, "read", [2, 1]]
        own = Engine(thrice, ((2, 1),))
        self.assertEqual(own.look(mark=read), 2)
        read[2][0] = 1
        self.assertEqual(own.book(), (((0, "read", (2, 1)), 2),))

    def test_by_name(self):
        engine = Engine(program=deep, shares=((1, 1),))
        engine.choose(number=1)
        engine.draw(number=1)
        self.assertEqual(engine.go_on(choices=(0,), draws=()), (1, 0))
        self.assertEqual(engine.look(mark=(1, "put")), 0)


def some_looks_once(rng, engine, program):
    """One look, if the mark drawn is not in the book yet."""
    lines = engine.lines()
    marks = all_marks(program, lines, rng.randrange(len(lines)))
    marks = [mark for mark in marks if mark[:2] not in [own[0][:2] for own in engine.book()]]
    if not marks:
        return []
    mark = rng.choice(marks)
    engine.look(mark)
    return [mark]


if __name__ == "__main__":
    unittest.main()
