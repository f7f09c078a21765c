"""[21]: parts at the end, beside what the registers of all RUNS of small programs hold."""

import itertools
import unittest

from anydlooks.errors import CanNot, NoRegister, Unfit
from anydlooks.programs import is_clean, is_program
from anydlooks.sharing import (
    added, are_parts, dealt_anew, end_form, end_forms, end_run, is_parts_bar, part_sets, parts_bar,
)
from predicates import lines_if_run, residues
from reckon import Play, clean_program, random_program, rng_of, rows_of, some_runs, source_count, spread, things_like, way_runs
from samples import bus, deep, fork, masked, meet, renew, tiny, turned, twin
from whole import finite_programs, lesser

MIXED = ("set", "set", "set", "draw", "call", "one", "many")


def held_at_end(program, run):
    """The spread of each register at the end."""
    slots = range(len(program[0][1]))
    return [spread(program, run, lambda play, slot=slot: play.slots[slot]) for slot in slots]


def form_by(program, held, row):
    """The tuple by which a sum is settled; None if it hangs on more than the secrets."""
    prime = program[0][0]
    rest = [sum(factor * own[k] for factor, own in zip(row, held)) % prime for k in range(len(held[0]))]
    form = []
    for own in program[1]:
        part, rest = rest[:len(own)], rest[len(own):]
        if len(set(part)) > 1:
            return None
        form.append(part[0])
    return None if any(rest) else tuple(form)


def is_free_by(program, run, row):
    """Whether the sum is even for all secrets, by playing all values."""
    counts, prime = {}, program[0][0]
    for values in itertools.product(range(prime), repeat=source_count(program, run)):
        play, secrets, rest = Play(program, run, values), [], list(values)
        for own in program[1]:
            secrets.append(sum(rest[:len(own)]) % prime)
            rest = rest[len(own):]
        key = (tuple(secrets), sum(a * b for a, b in zip(row, play.slots)) % prime)
        counts[key] = counts.get(key, 0) + 1
    return len(counts) == prime ** (len(program[1]) + 1) and len(set(counts.values())) == 1


def rows_unlike(program, places):
    slots = range(len(program[0][1]))
    return [row for row in rows_of(program[0][0], len(slots))
            if not any(row[slot] for slot in slots if slot not in places) and len({row[slot] for slot in places}) > 1]


def ones(program, places):
    return tuple(int(slot in places) for slot in range(len(program[0][1])))


def are_parts_by(program, every, places):
    told = {form_by(program, held, ones(program, places)) for held in every.values()}
    if len(told) != 1 or None in told or not any(min(told)):
        return False
    return all(form_by(program, held, row) is None for held in every.values() for row in rows_unlike(program, places))


def bar_by(program, every, places):
    def least(runs):
        return min(runs, key=lambda run: lesser(program, run))
    for row in rows_unlike(program, places):
        runs = [run for run, held in every.items() if form_by(program, held, row) is not None]
        if runs:
            return (least(runs),), row
    row, by_form = ones(program, places), {}
    for run, held in every.items():
        by_form.setdefault(form_by(program, held, row), []).append(run)
    bad = [run for form, runs in by_form.items() if form is None or not any(form) for run in runs]
    if bad:
        return (least(bad),), row
    if len(by_form) == 1:
        return None
    first, second = sorted(by_form)[:2]
    return (least(by_form[first]), least(by_form[second])), row


def is_bar_by(program, places, thing):
    if type(thing) is not tuple or len(thing) != 2 or type(thing[0]) is not tuple or len(thing[0]) not in (1, 2):
        return False
    runs, row = thing
    if not residues(row, program[0][0], len(program[0][1])):
        return False
    if any(lines_if_run(program, run) is None for run in runs):
        return False
    forms = [form_by(program, held_at_end(program, run), row) for run in runs]
    if row == ones(program, places):
        if len(forms) == 2:
            return None not in forms and all(map(any, forms)) and forms[0] != forms[1]
        return forms[0] is None or not any(forms[0])
    return row in rows_unlike(program, places) and len(forms) == 1 and forms[0] is not None


def all_places(program):
    slots = range(len(program[0][1]))
    return [own for size in range(2, len(slots) + 1) for own in itertools.combinations(slots, size)]


def finite(rng, many, runs=8):
    for program, lines in finite_programs(rng, many, terms=10 ** 6, runs=runs):
        yield program, {run: held_at_end(program, run) for run in lines}


class EndForms(unittest.TestCase):

    def test_end_form(self):
        rng, settled = rng_of(1), 0
        for _ in range(60):
            program = clean_program(rng, words=MIXED)
            for run in some_runs(program, lines=6, most=4):
                held = held_at_end(program, run)
                for row in rows_of(program[0][0], len(program[0][1])):
                    wanted = form_by(program, held, row)
                    self.assertEqual(end_form(program, run, row), wanted, (program, run, row))
                    settled += wanted is not None and any(wanted)
        self.assertGreater(settled, 60)

    def test_settled_or_free(self):
        """Each row is one of both; free is even for all secrets."""
        rng, told = rng_of(2), {True: 0, False: 0}
        while min(told.values()) < 40:
            program = clean_program(rng)
            for run in some_runs(program, lines=5, most=2):
                if program[0][0] ** source_count(program, run) > 70:
                    continue
                for row in rows_of(program[0][0], len(program[0][1])):
                    free = is_free_by(program, run, row)
                    self.assertIs(end_form(program, run, row) is None, free)
                    told[free] += 1

    def test_all_runs(self):
        rng = rng_of(3)
        several = 0
        for program, every in finite(rng, 60):
            for row in rows_of(program[0][0], len(program[0][1])):
                by_form = {}
                for run, held in every.items():
                    by_form.setdefault(form_by(program, held, row), []).append(run)
                told = tuple(sorted(form for form in by_form if form is not None))
                self.assertEqual(end_forms(program, row), (told, None in by_form), program)
                several += len(by_form) > 1
                for form, runs in by_form.items():
                    self.assertEqual(end_run(program, row, form), min(runs, key=lambda run: lesser(program, run)))
                for form in (None, *rows_of(program[0][0], len(program[1]))):
                    if form not in by_form:
                        with self.assertRaises(CanNot):
                            end_run(program, row, form)
        self.assertGreater(several, 20)

    def test_endless_runs(self):
        """Runs of rings and rounds: each small RUN ends as told, and end_run is the least of the small ones."""
        rng = rng_of(4)
        for _ in range(50):
            program = clean_program(rng, size=3)
            runs = [run for run, _ in way_runs(program[2], program[2][0], 6, 4, 4)][:40]
            every = {run: held_at_end(program, run) for run in runs}
            for row in rows_of(program[0][0], len(program[0][1]))[:9]:
                told, free = end_forms(program, row)
                forms = (*told, None) if free else told
                for held in every.values():
                    self.assertIn(form_by(program, held, row), forms)
                for form in forms:
                    run = end_run(program, row, form)
                    self.assertEqual(end_form(program, run, row), form)
                    if len(runs) < 40:
                        same = [own for own, held in every.items() if form_by(program, held, row) == form]
                        if same and min(lesser(program, own) for own in same)[0] < 3:
                            self.assertEqual(run, min(same, key=lambda own: lesser(program, own)), (program, row, form))

    def test_longer_runs(self):
        """Three rounds until the fourth register tells nothing settled; ends far behind calls."""
        self.assertEqual(end_forms(turned, (0, 0, 0, 1)), (((0,),), True))
        self.assertEqual(end_run(turned, (0, 0, 0, 1), None), (1,))
        self.assertEqual(end_run(turned, (1, 1, 1, 0), (1,)), (0,))
        chain = tuple((("call", k + 1, ()),) for k in range(5))
        last = (("one", ((), (("set", 2, ((0, 1), (1, 1))), ("call", 0, (0,))))),)
        long = ((2, (None,) * 3, (("put", 1),)), ((0, 1),), (*chain, last))
        self.assertEqual(end_forms(long, (0, 0, 1)), (((0,), (1,)), False))
        self.assertEqual(end_run(long, (0, 0, 1), (1,)), (1, 0))
        self.assertEqual(end_form(long, (1,) * 9 + (0,), (0, 0, 1)), (1,))

    def test_errors(self):
        for run in ((1,), (0, 0), (-1,), (2,), (10 ** 30,), (0, 10 ** 30)):
            with self.assertRaises(Unfit):
                end_form(deep, run, (1, 0, 0))
        with self.assertRaises(CanNot):
            end_run(deep, (1, 1, 0), None)
        with self.assertRaises(CanNot):
            end_run(deep, (1, 1, 0), (0,))


class Parts(unittest.TestCase):

    def test_all_runs(self):
        rng, truths, kinds = rng_of(5), {True: 0, False: 0}, set()
        for program, every in finite(rng, 150):
            wanted = []
            for places in all_places(program):
                good = are_parts_by(program, every, places)
                self.assertIs(are_parts(program, places), good, (program, places))
                bar = parts_bar(program, places)
                self.assertEqual(bar, bar_by(program, every, places), (program, places))
                self.assertIs(bar is None, good)
                if bar:
                    self.assertIs(is_parts_bar(program, places, bar), True)
                    kinds.add((len(bar[0]), bar[1] == ones(program, places)))
                truths[good] += 1
                wanted += [places] if good else []
            self.assertEqual(part_sets(program), tuple(sorted(wanted)))
        self.assertGreater(truths[True], 40)
        self.assertLessEqual({(1, True), (1, False)}, kinds)

    def test_several_forms(self):
        """What the WAYS of a "one" put into the last two registers adds up to unlike secrets, or to none."""
        rng, kinds = rng_of(9), {}
        for _ in range(60):
            prime = rng.choice((2, 3))
            slots, ways = (6, 3) if prime == 2 else (4, 3)
            dealt = ((0, 1), (2, 3))[:slots // 2 - 1 or 1]
            moves = []
            for _ in range(ways):
                one, two = rng.choice(dealt) if rng.random() < 0.9 else (0, 0)
                factor = rng.randint(1, prime - 1)
                moves.append((("set", slots - 2, ((one, factor),)), ("set", slots - 1, ((two, factor),))))
            program = (prime, (None,) * slots, (("put", 1),)), dealt, ((("one", tuple(moves)),),)
            every = {(k,): held_at_end(program, (k,)) for k in range(ways)}
            places = slots - 2, slots - 1
            bar = parts_bar(program, places)
            self.assertEqual(bar, bar_by(program, every, places), program)
            kind = bar and (len(bar[0]), bar[1] == ones(program, places))
            kinds[prime, kind] = kinds.get((prime, kind), 0) + 1
        for key in ((2, None), (3, None), (2, (2, True)), (3, (2, True)), (2, (1, True)), (3, (1, False))):
            self.assertIn(key, kinds)

    def test_two_forms(self):
        """Parts of one secret in one RUN, of the other one in the other."""
        move = (("set", 4, ((0, 1),)), ("set", 5, ((1, 1),))), (("set", 4, ((2, 1),)), ("set", 5, ((3, 1),)))
        program = (2, (None,) * 6, (("put", 1),)), ((0, 1), (2, 3)), ((("one", move),),)
        self.assertEqual(parts_bar(program, (4, 5)), (((1,), (0,)), (0, 0, 0, 0, 1, 1)))
        self.assertEqual(end_forms(program, (0, 0, 0, 0, 1, 1)), (((0, 1), (1, 0)), False))
        row = (0, 0, 0, 0, 1, 1)
        for thing, good in (((((1,), (0,)), row), True), ((((0,), (1,)), row), True), ((((0,), (0,)), row), False),
                            ((((0,),), row), False), ((((0,), (1,), (1,)), row), False), (((), row), False)):
            self.assertIs(is_parts_bar(program, (4, 5), thing), good)
        one = (2, (None,) * 6, (("put", 1),)), ((0, 1), (2, 3)), ((("one", (move[0], move[0])),),)
        self.assertIs(are_parts(one, (4, 5)), True)
        self.assertEqual(part_sets(one), ((0, 1), (0, 5), (1, 4), (2, 3), (4, 5)))

    def test_two_runs_no_bar(self):
        """Two RUNS are a bar only for the row of 1s, and only by two FORMS."""
        one, two = (("set", 4, ((0, 1), (1, 1))), ("draw", 5)), (("set", 4, ((2, 1), (3, 1))), ("draw", 5))
        program = (2, (None,) * 6, (("put", 1),)), ((0, 1), (2, 3)), ((("one", (one, two)),),)
        row = (0, 0, 0, 0, 1, 0)
        self.assertEqual(end_forms(program, row), (((0, 1), (1, 0)), False))
        for runs, good in ((((0,),), True), (((1,),), True), (((0,), (1,)), False), (((1,), (0,)), False)):
            self.assertIs(is_parts_bar(program, (4, 5), (runs, row)), good, runs)
        one, two = (("set", 4, ((0, 1),)), ("set", 5, ((0, 1),))), (("set", 4, ((0, 1),)), ("set", 5, ((1, 1),)))
        program = (2, (None,) * 6, (("put", 1),)), ((0, 1), (2, 3)), ((("one", (one, two)),),)
        row = (0, 0, 0, 0, 1, 1)
        self.assertEqual(end_forms(program, row), (((0, 0), (1, 0)), False))
        for runs, good in ((((0,),), True), (((1,),), False), (((0,), (1,)), False), (((1,), (0,)), False)):
            self.assertIs(is_parts_bar(program, (4, 5), (runs, row)), good, runs)

    def test_no_multiples(self):
        """What adds up to twice the secret is parts, too; what adds up to nothing is not."""
        for factor, good in ((1, True), (2, True), (0, False)):
            sums = [((slot, factor),) if factor else () for slot in (0, 1)]
            program = (3, (None,) * 3, (("put", 1),)), ((0, 1),), ((("set", 0, sums[0]), ("set", 1, sums[1])),)
            self.assertIs(are_parts(program, (0, 1)), good)
            self.assertEqual(end_forms(program, (1, 1, 0)), (((factor,),), False))

    def test_is_parts_bar(self):
        rng, truths = rng_of(6), {True: 0, False: 0}
        while truths[True] < 150:
            program = clean_program(rng)
            if len(program[0][1]) > 4:
                continue
            runs = some_runs(program, most=5)
            if not runs:
                continue
            places = rng.choice(all_places(program))
            rows = rows_of(program[0][0], len(program[0][1]))
            near = [row for row in rows if not any(row[k] for k in range(len(row)) if k not in places)]
            for _ in range(40):
                told = tuple(rng.choice(runs) for _ in range(rng.choice((0, 1, 1, 1, 2, 2, 3))))
                thing = told, rng.choice(near if rng.random() < 0.9 else rows)
                good = is_bar_by(program, places, thing)
                self.assertIs(is_parts_bar(program, places, thing), good, (program, places, thing))
                truths[good] += 1
        self.assertGreater(truths[False], 150)

    def test_things(self):
        for program, places in ((deep, (0, 2)), (bus, (0, 2)), (fork, (0, 2)), (turned, (0, 3)), (tiny, (0, 1))):
            bar = parts_bar(program, places)
            self.assertIsNotNone(bar)
            for thing in things_like(bar):
                self.assertIs(is_parts_bar(program, places, thing), is_bar_by(program, places, thing), (program, thing))
        row = (1, 0, 0, 1)
        for runs in (((10 ** 30,),), ((10 ** 18,),), ((1,), (10 ** 30,))):
            self.assertIs(is_parts_bar(turned, (0, 3), (runs, row)), len(runs) == 1 and end_form(turned, runs[0], row) is None)
        self.assertIs(is_parts_bar(turned, (0, 1), (((10 ** 30,),), (1, 1, 0, 0))), True)

    def test_errors(self):
        calls = (are_parts, parts_bar, lambda *own: is_parts_bar(*own, None))
        for call in calls:
            for places, number in (((0, 3), 3), ((-1, 5), -1), ((1, 2, 10 ** 30), 10 ** 30)):
                for own in (places, list(places)):
                    with self.assertRaises(NoRegister) as caught:
                        call(deep, own)
                    self.assertEqual(vars(caught.exception), {"number": number})


class Anew(unittest.TestCase):

    def test_dealt_anew(self):
        for prime, slots in ((2, 5), (3, 5), (5, 4)):
            machine = (prime, (None,) * slots, (("put", 1),))
            program = machine, ((0, 1),), ((("set", 2, ()),), ())
            less = prime - 1
            found = dealt_anew(program, (0, 1), (2, 3), "at once")
            self.assertEqual(found, (machine, ((0, 1),), (
                (("set", 2, ()), ("draw", 2), ("set", 3, ((0, 1), (1, 1), (2, less)))), ())))
            found = dealt_anew(program, (0, 1), (2, 3), "chain")
            self.assertEqual(found[2][0][1:], (
                ("draw", 2), ("set", 3, ((2, less),)), ("set", 3, ((0, 1), (3, 1))), ("set", 3, ((1, 1), (3, 1)))))
            found = dealt_anew(program, (2, 3), (0, 1), "chain")
            self.assertEqual(found[2][0][1:], (
                ("draw", 0), ("set", 1, ((0, less),)), ("set", 1, ((1, 1), (2, 1))), ("set", 1, ((1, 1), (3, 1)))))

    def test_three(self):
        found = dealt_anew(renew, (3, 4), (0, 1, 2), "at once")
        self.assertEqual(found[2][0][5:], (("draw", 0), ("draw", 1), ("set", 2, ((0, 1), (1, 1), (3, 1), (4, 1)))))
        found = dealt_anew(renew, (0, 2, 4), (1, 3), "chain")
        self.assertEqual(found[2][0][5:], (
            ("draw", 1), ("set", 3, ((1, 1),)), ("set", 3, ((0, 1), (3, 1))), ("set", 3, ((2, 1), (3, 1))),
            ("set", 3, ((3, 1), (4, 1)))))

    def test_others_hold_parts(self):
        """If places hold parts and no call leads to block 0, others hold parts behind."""
        rng, tried = rng_of(7), 0
        while tried < 60:
            program = random_program(rng, rings=False)
            if not is_clean(program) or len(program[0][1]) < 4:
                continue
            for places in part_sets(program):
                rest = [slot for slot in range(len(program[0][1])) if slot not in places]
                if len(rest) < 2:
                    continue
                others = tuple(sorted(rng.sample(rest, rng.randint(2, len(rest)))))
                told = end_forms(program, ones(program, places))
                for style in ("at once", "chain"):
                    found = dealt_anew(program, places, others, style)
                    self.assertIs(is_program(found), True)
                    self.assertIs(are_parts(found, others), True, (program, places, others, style))
                    self.assertEqual(end_forms(found, ones(found, others)), told)
                    tried += 1

    def test_added(self):
        program = (3, (None,) * 4, (("put", 1),)), ((0, 1),), ((("set", 2, ()),), (("call", 1, ()),))
        found = added(program, (0, 3), (1, 2), 2)
        self.assertEqual(found[2], ((("set", 2, ()), ("set", 0, ((0, 1), (1, 2))), ("set", 3, ((2, 2), (3, 1)))), program[2][1]))
        found = added(bus, (2, 3), (0, 1), 1)
        self.assertEqual(found[2][0][2:], (("set", 2, ((0, 1), (2, 1))), ("set", 3, ((1, 1), (3, 1)))))

    def test_forms_are_added(self):
        rng, tried, lost = rng_of(8), 0, 0
        while tried < 40:
            program = random_program(rng, rings=False)
            if not is_clean(program) or len(program[0][1]) < 4:
                continue
            sets = part_sets(program)
            for places, others in itertools.permutations(sets, 2):
                if len(places) != len(others) or set(places) & set(others):
                    continue
                tried += 1
                factor = rng.randint(1, program[0][0] - 1)
                found = added(program, places, others, factor)
                ((one,), _), ((two,), _) = end_forms(program, ones(program, places)), end_forms(program, ones(program, others))
                wanted = tuple((a + factor * b) % program[0][0] for a, b in zip(one, two))
                self.assertEqual(end_forms(found, ones(found, places)), ((wanted,), False))
                lost += not are_parts(found, places)
        self.assertGreater(lost, 0)

    def test_errors(self):
        calls = ((dealt_anew, "at once"), (dealt_anew, "chain"), (dealt_anew, "never"), (added, 1))
        for call, more in calls:
            for places, others, number in (((0, 9), (1, 8), 9), ((0, 1), (0, 5), 5), ((-1, 7), (2, 3), -1), ((0, 1), (0, 1, 4), 4),
                                           ((7, 8), (0, 9), 7)):
                with self.assertRaises(NoRegister) as caught:
                    call(bus, places, others, more)
                self.assertEqual(vars(caught.exception), {"number": number})
            with self.assertRaises(Unfit) as caught:
                call(bus, (0, 1), (1, 2), more)
            self.assertEqual(vars(caught.exception), {})
        for style in ("", "at", "chains", "at  once", "AT ONCE", "none"):
            with self.assertRaises(Unfit):
                dealt_anew(bus, (0, 1), (2, 3), style)
        for places, others in (((0, 1), (2, 3, 4)), ((0, 1, 2), (3, 4))):
            with self.assertRaises(Unfit):
                added(renew, places, others, 1)

    def test_calls_lead_to_block_0(self):
        """The items stand behind all others of block 0, whoever calls it."""
        ring = (2, (None,) * 4, (("put", 1),)), ((0, 1),), ((("one", ((), (("call", 0, ()),))),),)
        self.assertEqual(dealt_anew(ring, (0, 1), (2, 3), "at once")[2], (
            (ring[2][0][0], ("draw", 2), ("set", 3, ((0, 1), (1, 1), (2, 1)))),))

    def test_same_and_unchanged(self):
        places = [0, 1]
        program = [list(own) for own in bus]
        self.assertEqual(dealt_anew(program, places, [2, 3], "chain"), dealt_anew(bus, (0, 1), (2, 3), "chain"))
        self.assertEqual((places, program), ([0, 1], [list(own) for own in bus]))
        for own in (masked, meet, twin):
            self.assertEqual(part_sets(own), part_sets(own))


if __name__ == "__main__":
    unittest.main()
