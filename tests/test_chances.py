"""[8]: chances, beside going through all sources."""

import itertools
import unittest
from collections import Counter
from math import gcd

import predicates
from anydlooks.chances import (
    chance, cover, is_cover, is_look_plan, least_tellers, outcomes, plan_chances, plan_tells, rank_shown,
    secrets_left, telling_by, tells, told_forms,
)
from anydlooks.errors import CanNot, TooMany, Unfit
from anydlooks.forms import form_told, is_telling
from anydlooks.runs import lines_of
from reckon import (
    Play, all_marks, form_of_spread, nest, rows_of, secrets_by, source_count, spread,
    things_like,
)
from samples import bus, deep, renew, thrice, turned
from test_forms import cases, random_terms


class Counted:
    """What looks show, counted over all sources."""

    def __init__(self, program, run, looks):
        self.prime = program[0][0]
        self.by_secrets = {}
        for values in rows_of(self.prime, source_count(program, run)):
            play = Play(program, run, values)
            own = self.by_secrets.setdefault(secrets_by(program, values), Counter())
            own[tuple(play.shown(mark) for mark in looks)] += 1
        self.whole = sum(next(iter(self.by_secrets.values())).values())

    def told(self):
        counts = list(self.by_secrets.values())
        return any(own != counts[0] for own in counts)

    def chance(self, secrets, residues):
        many = self.by_secrets[secrets][residues]
        common = gcd(many, self.whole)
        return many // common, self.whole // common


def forms_by(program, run, looks):
    """The set of the FORMS that sums of what the looks show are."""
    prime = program[0][0]
    spreads = [spread(program, run, lambda play, mark=mark: play.shown(mark)) for mark in looks]
    found = set()
    for factors in rows_of(prime, len(looks)):
        row = [sum(own * more for own, more in zip(factors, column)) % prime for column in zip(*spreads)]
        if row:
            found.add(form_of_spread(program, row))
    return found - {None}


def small_cases(seed, many, **more):
    for rng, program, run in cases(seed, many, lines=5, most=3, **more):
        if program[0][0] ** source_count(program, run) <= 260:
            lines = Play(program, run).lines
            looks = tuple(mark for mark, _ in random_terms(rng, program, lines))
            if len(looks) > 6:
                looks = tuple(sorted(rng.sample(looks, 6)))
            yield rng, program, run, looks


class Chances(unittest.TestCase):

    def test_counted(self):
        told = 0
        for rng, program, run, looks in small_cases(1, 250):
            prime = program[0][0]
            counted = Counted(program, run, looks)
            self.assertEqual(tells(program, run, looks), counted.told())
            told += counted.told()
            for secrets, counts in counted.by_secrets.items():
                self.assertEqual(outcomes(program, run, looks, secrets), tuple(sorted(counts)))
                self.assertEqual(prime ** rank_shown(program, run, looks), len(counts))
            every = rows_of(prime, len(looks))
            for residues in rng.sample(every, min(6, len(every))):
                left = []
                for secrets in sorted(counted.by_secrets):
                    self.assertEqual(chance(program, run, looks, secrets, residues), counted.chance(secrets, residues))
                    if counted.by_secrets[secrets][residues]:
                        left.append(secrets)
                self.assertEqual(secrets_left(program, run, looks, residues), tuple(left))
        self.assertGreater(told, 60)

    def test_forms(self):
        twin = ((2, (None,) * 5, (("put", 1), ("turn", 1))), ((0, 1), (2, 3)), (
            (("set", 4, ((0, 1), (2, 1))), ("set", 4, ((1, 1),)), ("set", 4, ((3, 1),)), ("set", 4, ((2, 1),))),))
        nine = ((3, (0, 0, None, None), (("put", 1), ("pass", 1))), ((0, 2), (1, 3)), (
            (("set", 2, ((0, 1), (2, 1))), ("set", 1, ((1, 2), (3, 2))), ("set", 0, ((1, 1),)), ("draw", 3)),))
        plain_cases = list(small_cases(2, 250)) + self.parts_of(twin, 3) + self.parts_of(nine, 3)
        several = 0
        for rng, program, run, looks in plain_cases:
            prime = program[0][0]
            wanted = forms_by(program, run, looks)
            lead_rows = told_forms(program, run, looks)
            made = {tuple(sum(own * row[k] for own, row in zip(factors, lead_rows)) % prime
                          for k in range(len(program[1]))) for factors in rows_of(prime, len(lead_rows))}
            self.assertEqual({own for own in made if any(own)}, wanted)
            several += len(lead_rows) > 1
            for row in lead_rows:
                lead = row.index(1)
                self.assertFalse(any(row[:lead]))
                self.assertEqual(sum(own[lead] != 0 for own in lead_rows), 1)
            self.assertEqual(list(lead_rows), sorted(lead_rows, reverse=True))
            for form in rows_of(prime, len(program[1])):
                if form in wanted:
                    telling = telling_by(program, run, looks, form)
                    self.assertEqual(telling[0], run)
                    self.assertTrue(is_telling(program, telling))
                    self.assertEqual(form_told(program, telling), form)
                    self.assertLessEqual({mark for mark, _ in telling[1]}, set(looks))
                    self.assertEqual(telling_by(program, list(run), [list(own) for own in looks], list(form)), telling)
                elif any(form):
                    with self.assertRaises(CanNot):
                        telling_by(program, run, looks, form)
            found = cover(program, run, looks)
            self.assertEqual(found is None, bool(wanted))
            if found is not None:
                self.assertIs(is_cover(program, run, looks, found), True)
        self.assertGreater(several, 20)

    def parts_of(self, program, most):
        """The program's one RUN with all LOOKS of at most so many marks, and some more."""
        marks = [mark for k in range(4) for mark in all_marks(program, Play(program, ()).lines, k)]
        return [(None, program, (), own) for size in range(most + 2) for own in itertools.combinations(marks, size)
                if len(own) <= most or own[0][0] == 0]

    def test_covers(self):
        tried = 0
        for rng, program, run, looks in small_cases(3, 200):
            prime, length = program[0][0], source_count(program, run)
            if prime ** length > 64:
                continue
            good = []
            for number in range(len(program[1])):
                good.append([own for own in rows_of(prime, length) if self.covers(program, run, looks, number, own)])
            for number, own in enumerate(good):
                others = [more[0] if more else (0,) * length for more in good]
                for row in rows_of(prime, length):
                    thing = tuple(others[:number]) + (row,) + tuple(others[number + 1:])
                    wanted = row in own and all(more for more in good)
                    self.assertIs(is_cover(program, run, looks, thing), wanted)
                    tried += wanted
            self.assertEqual(all(good), not tells(program, run, looks))
        self.assertGreater(tried, 100)

    def covers(self, program, run, looks, number, row):
        """Whether looks show the same if the sources are more by row, one secret 1 more."""
        start = Play(program, run)
        moved = Play(program, run, row)
        wanted = tuple(int(own == number) for own in range(len(program[1])))
        if secrets_by(program, row) != wanted:
            return False
        return all(start.shown(mark) == moved.shown(mark) for mark in looks)

    def test_least_tellers(self):
        found = 0
        for rng, program, run, looks in small_cases(4, 200):
            telling = [own for size in range(len(looks) + 1) for own in itertools.combinations(looks, size)
                       if forms_by(program, run, own)]
            least = [own for own in telling if not any(set(more) < set(own) for more in telling)]
            self.assertEqual(least_tellers(program, run, looks), sorted(least))
            found += len(least) > 1
        self.assertGreater(found, 10)

    def test_plans(self):
        told = 0
        for rng, program, run, looks in small_cases(5, 250):
            plan = self.random_plan(rng, program, Play(program, run).lines, (), 3)
            self.assertIs(is_look_plan(program, run, plan), True)
            counts = {}
            for values in rows_of(program[0][0], source_count(program, run)):
                own = counts.setdefault(secrets_by(program, values), Counter())
                own[followed(plan, Play(program, run, values))] += 1
            first = None
            differ = False
            for secrets, own in counts.items():
                whole = sum(own.values())
                wanted = tuple(sorted((way, (many // gcd(many, whole), whole // gcd(many, whole)))
                                      for way, many in own.items()))
                self.assertEqual(plan_chances(program, run, plan, secrets), wanted)
                first = first or own
                differ = differ or own != first
            self.assertEqual(plan_tells(program, run, plan), differ)
            told += differ
        self.assertGreater(told, 20)

    def random_plan(self, rng, program, lines, seen, depth):
        marks = [mark for k in range(len(lines)) for mark in all_marks(program, lines, k) if mark[:2] not in seen]
        if not depth or not marks or rng.random() < 0.15:
            return ()
        mark = rng.choice(marks)
        return mark, tuple(self.random_plan(rng, program, lines, seen + (mark[:2],), depth - 1)
                           for _ in range(program[0][0]))


def followed(plan, play):
    way = ()
    while plan:
        shown = play.shown(plan[0])
        way += (shown,)
        plan = plan[1][shown]
    return way


class Edges(unittest.TestCase):

    def test_no_looks(self):
        for program, run in ((renew, ()), (turned, (0,)), (deep, (1, 0)), (thrice, ())):
            secrets = (1,)
            self.assertEqual((tells(program, run, ()), told_forms(program, run, ()), rank_shown(program, run, ())), (False, (), 0))
            self.assertEqual((outcomes(program, run, (), secrets), chance(program, run, (), secrets, ())), (((),), (1, 1)))
            self.assertEqual(secrets_left(program, run, (), ()), tuple((own,) for own in range(program[0][0])))
            self.assertEqual((least_tellers(program, run, ()), plan_chances(program, run, (), secrets)), ([], (((), (1, 1)),)))
            self.assertEqual((plan_tells(program, run, ()), is_look_plan(program, run, ())), (False, True))
            self.assertIs(is_cover(program, run, (), cover(program, run, ())), True)
            with self.assertRaises(CanNot):
                telling_by(program, run, (), (1,))

    def test_runs_first(self):
        put = (0, "put")
        calls = [lambda run, looks: tells(deep, run, looks), lambda run, looks: told_forms(deep, run, looks),
                 lambda run, looks: telling_by(deep, run, looks, (1,)), lambda run, looks: cover(deep, run, looks),
                 lambda run, looks: is_cover(deep, run, looks, ()), lambda run, looks: rank_shown(deep, run, looks),
                 lambda run, looks: outcomes(deep, run, looks, (0,)), lambda run, looks: chance(deep, run, looks, (0,), (0,)),
                 lambda run, looks: secrets_left(deep, run, looks, (0,)), lambda run, looks: least_tellers(deep, run, looks)]
        for call in calls:
            call((1, 0), (put,)) if call is not calls[2] else None
            for run, looks in (((1,), (put,)), ((), ()), ((1, 0), ((5, "put"),)), ((1, 0), (put, put)), ((1, 0), ((0, "pass"),)),
                               ((1, 0), ((1, "put"), put)), ((1, 0), (("put", 0),))):
                with self.assertRaises(Unfit) as caught:
                    call(run, looks)
                self.assertEqual(vars(caught.exception), {})
        for run in ((1,), ()):
            with self.assertRaises(Unfit):
                is_look_plan(deep, run, ())
        for plan in (((0, "pass"), ((), ())), ((0, "put"), ((),)), ((0, "put"), ((), ((0, "put"), ((), ()))))):
            with self.assertRaises(Unfit):
                plan_chances(deep, (1, 0), plan, (0,))
            with self.assertRaises(Unfit):
                plan_tells(deep, (1, 0), plan)

    def test_limits(self):
        machine = (2, (None,) * 3, (("put", 1), ("turn", 1)))
        lines = (("draw", 2),) * 11 + (("set", 2, ((0, 1),)), ("set", 2, ((1, 1),)))
        many = (machine, ((0, 1),), (lines,))
        ten = tuple((k, "put") for k in range(10))
        self.assertEqual(len(outcomes(many, (), ten, (0,))), 1024)
        with self.assertRaises(TooMany):
            outcomes(many, (), ten + ((10, "put"),), (0,))
        self.assertEqual(rank_shown(many, (), ten + ((10, "put"),)), 11)
        self.assertEqual(chance(many, (), ten + ((10, "put"),), (1,), (0,) * 11), (1, 2048))
        last = ten[:8] + ((11, "put"), (12, "put"))
        self.assertEqual(least_tellers(many, (), last), [((11, "put"), (12, "put"))])
        with self.assertRaises(TooMany):
            least_tellers(many, (), ten[:9] + ((11, "put"), (12, "put")))
        with self.assertRaises(Unfit):
            least_tellers(many, (), ten[:9] + ((11, "put"), (13, "put")))

    def test_many_pairs(self):
        """At most 200 pairs are a bound, of which no plan is told by being one."""
        machine = (2, (None,) * 3, (("put", 1),))
        program = (machine, ((0, 1),), ((("draw", 2),) * 8,))
        plan = ()
        for number in reversed(range(8)):
            plan = ((number, "put"), (plan, plan))
        self.assertIs(is_look_plan(program, (), plan), True)
        self.assertEqual(len(plan_chances(program, (), plan, (0,))), 256)

    def test_plan_things(self):
        samples = [(turned, (1,), ((0, "put"), ((), ((2, "turn"), ((), ()))))),
                   (thrice, (), ((0, "read", (1, 2)), ((), ((0, "put"), ((), (), ())), ())))]
        for program, run, sample in samples:
            lines = lines_of(program, run)
            for thing in things_like(sample):
                self.assertIs(is_look_plan(program, run, thing), predicates.look_plan(program, lines, thing), thing)
        twice = ((0, "read", (1, 2)), (((0, "read", (0, 1)), ((),) * 3), (), ()))
        self.assertFalse(is_look_plan(thrice, (), twice))
        # What stands behind what cannot come counts, too.
        clear = (deep[0], deep[1], ((("set", 2, ()), ("set", 2, ((0, 1),)), ("set", 2, ((1, 1),))),))
        never = ((0, "put"), ((), ((1, "put"), ((), ((2, "put"), ((), ()))))))
        self.assertEqual((plan_chances(clear, (), never, (1,)), plan_tells(clear, (), never)), ((((0,), (1, 1)),), False))
        self.assertFalse(is_look_plan(clear, (), ((0, "put"), ((), ((0, "put"), ((), ()))))))

    def test_cover_things(self):
        two = ((2, "put"), (3, "put"))
        sample = ((1, 0, 0, 1, 0),)
        for thing in things_like(sample):
            wanted = False
            if type(thing) is tuple and len(thing) == 1 and predicates.residues(thing[0], 2, 5):
                wanted = sum(thing[0][:3]) % 2 == 1 and (thing[0][0] + thing[0][3]) % 2 == 0 == (thing[0][1] + thing[0][4]) % 2
            self.assertIs(is_cover(renew, (), two, thing), wanted, thing)
        for thing in (None, (), [], "", 0, True, nest(30), [[1, 0, 0, 1, 0]], ([1, 0, 0, 1, 0],)):
            self.assertIs(is_cover(renew, (), two, thing), False)

    def test_two_sharings(self):
        program = ((2, (None, 0, None, 0), (("pass", 1), ("put", 1))), ((0, 2), (1, 3)),
                   ((("set", 1, ((1, 1),)), ("set", 3, ((3, 1),)), ("set", 3, ((0, 1), (2, 1)))),))
        looks = ((0, "put"), (1, "pass"), (2, "put"))
        self.assertEqual(told_forms(program, (), looks), ((1, 0), (0, 1)))
        self.assertEqual(least_tellers(program, (), looks), [((1, "pass"),), ((2, "put"),)])
        self.assertEqual(secrets_left(program, (), looks, (1, 1, 0)), ((0, 1),))
        self.assertEqual(outcomes(program, (), looks, (0, 1)), ((0, 1, 0), (1, 1, 0)))
        self.assertEqual(tells(bus, (), ((0, "put"),)), False)


if __name__ == "__main__":
    unittest.main()
