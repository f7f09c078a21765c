"""[6]: RUNS, their LINES, their choices, and which there are."""

import time
import unittest

import predicates
from anydlooks.errors import NoItem, NoLine, TooMany, Unfit
from anydlooks.programs import items_of
from anydlooks.runs import (
    asked, choices_of, finished, is_run, least_run, least_run_at, lies, line_paths, lines_of, run_counts, runs_to,
    sure_lines,
)
from reckon import Play, clean_program, nest, rng_of, some_runs, things_like, way_runs
from samples import bus, deep, plain, renew, turned


def clean_programs(seed, many, **more):
    rng = rng_of(seed)
    for _ in range(many):
        yield clean_program(rng, **more)


def order(program, run):
    return len(Play(program, run).lines), len(run), run


class Follow(unittest.TestCase):

    def test_lines(self):
        many = 0
        for program in clean_programs(1, 250):
            for run in some_runs(program, 8, 5):
                play = Play(program, run)
                self.assertEqual(lines_of(program, run), tuple(play.lines))
                self.assertEqual(line_paths(program, run), tuple(play.paths))
                self.assertEqual(choices_of(program, run), tuple(play.choices))
                self.assertIs(is_run(program, run), True)
                many += 1
        self.assertGreater(many, 500)

    def test_is_run(self):
        for program in clean_programs(2, 60):
            for run in some_runs(program, 6, 4, 5):
                for thing in things_like(run):
                    small = predicates.lines_if_run(program, thing)
                    if small is not None or not isinstance(thing, tuple):
                        self.assertIs(is_run(program, thing), small is not None, (program, thing))
                    elif all(type(own) is int and -1 <= own < 1000 for own in thing):
                        self.assertIs(is_run(program, thing), False, (program, thing))
                    else:
                        self.assertIn(is_run(program, thing), (True, False))

    def test_things(self):
        for thing in (None, True, 0, "", "0", [], [1, 0], (True, 0), (1, False), ("1", 0), ((1, 0),), (None,), nest(30),
                      (1, -1), (-1,), (1, 0, 0), (1,), (2,), (10 ** 30,), (1, 10 ** 30)):
            self.assertIs(is_run(deep, thing), False, thing)
        for thing in ((10 ** 30,), (0,), (10 ** 1000,)):
            self.assertIs(is_run(turned, thing), True)
        self.assertIs(is_run(turned, (-1,)), False)
        self.assertIs(is_run(renew, ()), True)
        self.assertIs(is_run(deep, (1,) * 30000 + (0,)), True)
        self.assertIs(is_run(deep, (1,) * 30000), False)

    def test_unfit(self):
        for program, run in ((deep, ()), (deep, (1,)), (deep, (0, 0)), (deep, (2,)), (deep, (-1,)), (renew, (0,)),
                             (turned, ()), (turned, (1, 1)), (turned, [-1])):
            for call in (lines_of, line_paths, choices_of):
                with self.assertRaises(Unfit) as caught:
                    call(program, run)
                self.assertEqual(vars(caught.exception), {})
            with self.assertRaises(Unfit):
                lies(program, run, 99)

    def test_lies(self):
        for program in clean_programs(3, 150):
            lying = program[0][1]
            for run in some_runs(program, 8, 4, 5):
                lines = Play(program, run).lines
                for number in range(len(lines) + 1):
                    found = []
                    for slot in range(len(lying)):
                        found.append(max([k for k in range(number) if lines[k][1] == slot], default=None))
                    for own in range(len({more for more in lying if more is not None})):
                        found.append(max([k for k in range(number) if lying[lines[k][1]] == own], default=None))
                    self.assertEqual(lies(program, run, number), tuple(found))
                for number in (-1, len(lines) + 1, 10 ** 30):
                    with self.assertRaises(NoLine) as caught:
                        lies(program, run, number)
                    self.assertEqual(vars(caught.exception), {"number": number})

    def test_rows(self):
        told = 0
        for program in clean_programs(4, 150):
            every = some_runs(program, 6, 5, 10 ** 6)
            rows = {run[:k] for run in every for k in range(len(run) + 1)}
            for row in sorted(rows)[::1 + len(rows) // 40]:
                begun = [run for run in every if run[:len(row)] == row]
                whole = row in every
                self.assertEqual(asked(program, row) is None, whole)
                if whole:
                    self.assertEqual(sure_lines(program, row), len(Play(program, row).lines))
                    self.assertEqual(finished(program, row), row)
                    continue
                path, _, lines = Play(program, begun[0]).choices[len(row)]
                item = dict(items_of(program))[path]
                self.assertEqual(asked(program, row), len(item[1]) if item[0] == "one" else 0)
                self.assertEqual(sure_lines(program, row), lines)
                found = finished(program, row)
                self.assertEqual(found[:len(row)], row)
                self.assertLessEqual(order(program, found), min(order(program, run) for run in begun))
                told += found in begun
        self.assertGreater(told, 200)

    def test_rows_that_tell_nothing(self):
        for program, row in ((deep, (2,)), (deep, (0, 0)), (deep, (1, 2)), (renew, (0,)), (turned, (0, 0)), (deep, (-1,)),
                             (turned, (-1,)), (deep, (1, 1, 1, 7))):
            for call in (asked, sure_lines, finished):
                with self.assertRaises(Unfit):
                    call(program, row)
                with self.assertRaises(Unfit):
                    call(program, list(row))

    def test_rest_in_order(self):
        line = ("draw", 0)
        zero, one = ("one", ((), (line,))), ("one", ((line,), ()))
        program = (deep[0], deep[1], ((("call", 1, ()), one, zero, one), (zero, zero, one, zero)))
        self.assertEqual(finished(program, ()), (0, 0, 1, 0, 1, 0, 1))
        self.assertEqual(finished(program, (1,)), (1, 0, 1, 0, 1, 0, 1))
        rounds = (deep[0], deep[1], ((("many", (one, zero, zero)), one, one, zero),))
        self.assertEqual(finished(rounds, (2, 0)), (2, 0, 0, 0, 1, 0, 0, 1, 1, 0))
        self.assertEqual(finished(rounds, (2, 1, 0, 0, 0)), (2, 1, 0, 0, 0, 0, 0, 1, 1, 0))

    def test_great_numbers(self):
        self.assertEqual((asked(turned, (10 ** 6,)), sure_lines(turned, (10 ** 6,))), (None, 4 * 10 ** 6))
        self.assertEqual(finished(turned, (10 ** 6,)), (10 ** 6,))
        inner = (deep[0], deep[1], ((("many", (("one", ((("draw", 0),), ())),)), ("draw", 1)),))
        self.assertEqual((asked(inner, (10 ** 6,)), sure_lines(inner, (10 ** 6, 0, 1, 0))), (2, 2))
        self.assertEqual(finished(inner, (1000, 0)), (1000, 0) + (1,) * 999)


class Least(unittest.TestCase):

    def test_least(self):
        many = 0
        for program in clean_programs(5, 200):
            every = some_runs(program, 8, 6, 10 ** 6)
            if not every:
                continue
            found = least_run(program)
            self.assertLessEqual(order(program, found), min(order(program, run) for run in every), program)
            self.assertEqual(finished(program, ()), found)
            many += found in every
        self.assertGreater(many, 100)

    def test_least_at(self):
        many = 0
        for program in clean_programs(6, 150, size=3):
            came = {}
            for run, _ in way_runs(program[2], program[2][0], 12, 5, 2):
                own = order(program, run)
                for path in passed(program, run):
                    came[path] = min(own, came.get(path, own))
            for path, _ in items_of(program):
                found = least_run_at(program, path)
                self.assertIn(path, passed(program, found))
                if path in came:
                    self.assertLessEqual(order(program, found), came[path])
                    if order(program, found)[0] <= 12 and len(found) <= 5 and max(found, default=0) <= 2:
                        self.assertEqual(found, came[path][2])
                        many += 1
        self.assertGreater(many, 300)

    def test_least_at_wrong_paths(self):
        for path in ((0,), (1, 0, 2, 0), (5, 0), (), (0, -1)):
            with self.assertRaises(NoItem) as caught:
                least_run_at(deep, list(path))
            self.assertEqual(vars(caught.exception), {"path": path})

    def test_ties(self):
        machine, dealt, line = deep[0], deep[1], ("draw", 0)
        cases = [
            # As many lines: fewer numbers; as many of both: the lesser one.
            (((("one", ((("one", ((line,), (line,))),), (line,))),),), (1,)),
            (((("one", ((line,), (line,), (("many", ()), line))),),), (0,)),
            (((("one", ((line, line), (("many", ()), line))),),), (1, 0)),
            (((("call", 1, (0,)),), (("one", ((("call", 1, ()),), ())),)), (1,)),
            (((("many", (line,)), ("one", ((line,), ())), ("many", ())),), (0, 1, 0)),
            # A put back is a LINE as any other.
            (((("one", ((line,), (("call", 1, (0,)),))),), ()), (0,)),
            (((("one", ((("call", 1, (0,)),), (line,))),), ()), (0,)),
            (((("one", ((line, line), (("call", 1, (0, 1)),))),), ()), (0,)),
            (((("one", ((line, line), (("call", 1, (0,)),))),), ()), (1,)),
        ]
        for blocks, run in cases:
            self.assertEqual(least_run((machine, dealt, blocks)), run)


def passed(program, run):
    """The paths of the items that the run comes to."""
    found = set()

    class Watch(Play):
        def item(self, path, item):
            found.add(path)
            Play.item(self, path, item)
    Watch(program, run)
    return found


ENDLESS = float("inf")


def times(one, other):
    """How many runs of both have so many lines, from how many of each have."""
    found = [0] * len(one)
    for k, own in enumerate(one):
        for j, more in enumerate(other[:len(one) - k]):
            if own and more:
                # What is above a million is far too many, however far.
                found[k + j] = min(found[k + j] + own * more, 10 ** 6)
    return found


def counts_of_way(way, table, most):
    found = [1] + [0] * most
    for item in way:
        own = [0, 1] + [0] * most
        if item[0] == "call":
            own = [0] * len(item[2]) + table[item[1]]
        elif item[0] == "one":
            own = [sum(more) for more in zip(*[counts_of_way(inner, table, most) for inner in item[1]])]
        elif item[0] == "many":
            once, own, rounds = counts_of_way(item[1], table, most), [1] + [0] * most, [1] + [0] * most
            if once[0]:
                # As many more rounds without lines as you like, wherever there is one round.
                own = [ENDLESS if any(more[:k + 1]) else 0 for more in [own] for k in range(most + 1)]
            else:
                for _ in range(most):
                    rounds = times(rounds, once)
                    own = [a + b for a, b in zip(own, rounds)]
        found = times(found, own[:most + 1])
    return found


def counts_by(program, most):
    """How many RUNS have just so many LINES, ENDLESS where more come the deeper calls may lie."""
    blocks = program[2]
    table = [[0] * (most + 1) for _ in blocks]
    rounds = (most + 1) * len(blocks) + 1
    for _ in range(rounds):
        table = [counts_of_way(way, table, most) for way in blocks]
    later = table
    for _ in range(2 * rounds):
        later = [counts_of_way(way, later, most) for way in blocks]
    return [own if own == more else ENDLESS for own, more in zip(table[0], later[0])]


class All(unittest.TestCase):

    def test_all_runs(self):
        listed = refused = 0
        for program in clean_programs(7, 250, size=3):
            most = 4
            try:
                found = runs_to(program, most)
            except TooMany:
                refused += 1
                with self.assertRaises(TooMany):
                    run_counts(program, most)
                continue
            listed += 1
            self.assertEqual(found, sorted(set(found), key=lambda run: order(program, run)))
            for run in found:
                self.assertLessEqual(order(program, run)[0], most)
            wanted = {run for run, _ in way_runs(program[2], program[2][0], most, 5, most)}
            self.assertEqual({run for run in found if len(run) <= 5}, wanted, program)
            counts = run_counts(program, most)
            self.assertEqual(counts, [sum(order(program, run)[0] == k for run in found) for k in range(most + 1)])
        self.assertGreater(listed, 100)
        self.assertGreater(refused, 10)

    def test_how_many(self):
        seen = {True: 0, False: 0}
        for program in clean_programs(8, 200, size=3):
            for most in (0, 1, 3, 6):
                wanted = counts_by(program, most)
                seen[sum(wanted) > 2000] += 1
                if sum(wanted) > 2000:
                    with self.assertRaises(TooMany):
                        run_counts(program, most)
                else:
                    self.assertEqual(run_counts(program, most), wanted, program)
        self.assertGreater(min(seen.values()), 50)

    def test_limits(self):
        machine, dealt, line = deep[0], deep[1], ("draw", 0)
        bits = ("one", ((), (line,)))

        def program(*items):
            return machine, dealt, (tuple(items),)
        self.assertEqual(len(runs_to(program(*[bits] * 10), 10)), 1024)
        with self.assertRaises(TooMany):
            runs_to(program(*[bits] * 36), 40)
        for most, good in ((4, True), (5, True), (8, True), (9, False), (11, False)):
            eleven = program(*[bits] * 11)
            wanted = [1, 11, 55, 165, 330, 462, 462, 330, 165][:most + 1]
            if good:
                self.assertEqual(run_counts(eleven, most), wanted)
            else:
                with self.assertRaises(TooMany):
                    run_counts(eleven, most)
        # Just 2,000 and 2,001 runs: 40 numbers by 50, and one run more.
        fifty = ("one", tuple((("one", ((), (), (), ())), ("one", ((), (), ()))) for _ in range(4)))
        self.assertEqual(len(runs_to(program(fifty), 0)), 48)
        forty = [("many", (line,)), ("one", ((), (), (), ())), ("one", ((), (), (), ())), ("one", ((), (), ()))]
        self.assertEqual(len(runs_to(program(*forty), 40)), 41 * 48)
        three = program(("many", (line,)), ("one", (tuple(forty[1:3]), tuple(forty[1:3]), tuple(forty[1:3]), (fifty, line))))
        self.assertEqual(len(runs_to(three, 20)), 21 * 48 + 20 * 48)
        with self.assertRaises(TooMany):
            runs_to(three, 21 + 1)
        exact = program(("one", (tuple(forty[1:]) + (line,) * 2 + (("many", (line,)),), (("many", (line,)),) * 2)))
        # 48 * (most - 1) + (most + 1) * (most + 2) // 2
        self.assertEqual(len(runs_to(exact, 30)), 48 * 29 + 31 * 16)
        self.assertEqual(sum(run_counts(exact, 31)), 48 * 30 + 32 * 33 // 2)
        with self.assertRaises(TooMany):
            runs_to(exact, 32)

    def test_just_two_thousand(self):
        machine, dealt, line = deep[0], deep[1], ("draw", 0)
        # One of 0 to 39 times a line, and 50 ways to go on, of which two are a round of one line.
        ways = ("one", ((("one", ((), (), (), ())), ("one", ((), (), (), ())), ("one", ((), (), ()))), (line,) * 41, ()))
        even = (machine, dealt, ((("many", (line,)), ways),))
        self.assertEqual(sum(run_counts(even, 39)), 40 * 49)
        with self.assertRaises(TooMany):
            run_counts(even, 40)
        other = (machine, dealt, ((("many", (line,)), ("one", (ways[1][0], (), ()))),))
        self.assertEqual(len(runs_to(other, 39)), 2000)
        with self.assertRaises(TooMany):
            runs_to(other, 40)
        with self.assertRaises(TooMany):
            run_counts(other, 40)
        one_more = (machine, dealt, ((("one", (other[2][0], ())),),))
        self.assertEqual(len(runs_to(one_more, 38)), 1951)
        with self.assertRaises(TooMany):
            runs_to(one_more, 39)
        with self.assertRaises(TooMany):
            run_counts(one_more, 39)

    def test_without_end(self):
        machine, dealt, line = deep[0], deep[1], ("draw", 0)
        start = time.time()
        for blocks in (((("many", ()),),), ((("one", ((), (("call", 0, ()),))),),), ((("one", ((("call", 0, ()),), ())),),),
                       ((line, ("many", (("call", 1, ()),))), ())):
            with self.assertRaises(TooMany):
                runs_to((machine, dealt, blocks), 1)
            with self.assertRaises(TooMany):
                run_counts((machine, dealt, blocks), 1)
        # One within the other, each of which goes on behind the inner one.
        again = (((("one", ((line, line), (("call", 0, ()),))), ("many", (("call", 0, (0,)),))),),
                 ((("one", ((line,), (("call", 1, ()),))), ("one", ((), (line,)))), (("call", 0, ()), ("many", (line,)))),
                 ((("one", ((line,), (("call", 0, ()), ("one", ((), ()))))),),))
        for blocks in again:
            with self.assertRaises(TooMany):
                runs_to((machine, dealt, blocks), 4)
            with self.assertRaises(TooMany):
                run_counts((machine, dealt, blocks), 2)
            self.assertEqual(runs_to((machine, dealt, blocks), 0), [])
        far = ("draw", 1)
        with self.assertRaises(TooMany):
            runs_to((machine, dealt, ((("one", ((far, far), (("call", 0, ()),))), ("many", (("call", 0, (0,)),))),)), 4)
        ring = (("one", ((), (("call", 1, ()),))),)
        late = (machine, dealt, ((("one", ((), (far,), (far, far, ("call", 1, ())))),), ring))
        self.assertEqual(runs_to(late, 1), [(0,), (1,)])
        with self.assertRaises(TooMany):
            runs_to(late, 2)
        # No end of them, but only above so many lines.
        late = (machine, dealt, ((("one", ((), (line, line, ("many", ())))),),))
        self.assertEqual((runs_to(late, 1), run_counts(late, 1)), ([(0,)], [1, 0]))
        with self.assertRaises(TooMany):
            runs_to(late, 2)
        self.assertEqual(runs_to((machine, dealt, ((line,),)), 0), [])
        self.assertEqual(run_counts((machine, dealt, ((),)), 0), [1])
        self.assertLess(time.time() - start, 60)

    def test_examples_again(self):
        self.assertEqual(runs_to(deep, 40), [(1,) * k + (0,) for k in range(10)])
        self.assertEqual(runs_to(bus, 2), [()])
        self.assertEqual(runs_to(bus, 1), [])
        machine = (2, (None,) * 2, plain)
        empty = (machine, ((0, 1),), ((("many", ()),),))
        self.assertEqual((lines_of(empty, (10 ** 6,)), choices_of(empty, (10 ** 6,))), ((), (((0, 0), 10 ** 6, 0),)))


if __name__ == "__main__":
    unittest.main()
