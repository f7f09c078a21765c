"""[13]: FORMS and what is told together, beside all LOOKS of all RUNS."""

import unittest

import predicates
from anydlooks.closed import are_closed, closed_tables
from anydlooks.errors import CanNot, TooMany
from anydlooks.forms import form_told, is_looks, is_telling, price_of
from anydlooks.least import cheapest_telling, least_price
from anydlooks.runs import is_run
from anydlooks.sums import (
    bundle, form_price, form_shield, form_telling, forms_to, is_bundle, is_form_shield, is_form_telling, learnt,
    priced_forms, together,
)
from reckon import Play, clean_program, count_terms, price, rng_of, rows_of, things_like, way_runs
from samples import bus, deep, fork, plain, renew, thrice, tiny, turned, twin
from test_closed import programs, told_by
from whole import Naive, all_looks, finite_programs, forms_by_looks, tellings

BOTH = ((0, 1), (1, 0))


def two_secrets(seed, many):
    """Programs with few RUNS and two SHARINGS, many of which tell both; mostly a spare register is written."""
    rng = rng_of(seed)
    while many:
        lying = rng.choice(((None,) * 5, (None, None, None, 0), (None,) * 4))
        words = sorted(rng.sample(("pass", "put", "read", "turn"), rng.randint(1, 3)))
        machine = (2, lying, tuple((word, rng.choice((1, 1, 2))) for word in words))
        way = tuple(some_item(rng, len(lying)) for _ in range(rng.randint(3, 5)))
        program = (machine, ((0, 1), (2, 3)), (way,))
        lines = {run: Play(program, run).lines for run, _ in way_runs(program[2], way, 9, 9, 0)}
        if sum(count_terms(program, own) for own in lines.values()) <= 3000:
            many -= 1
            yield rng, program, lines


def some_item(rng, slots):
    if rng.random() < 0.15:
        return ("draw", rng.randrange(slots))
    if rng.random() < 0.2:
        return ("one", tuple((some_item(rng, slots),) for _ in range(2)))
    picked = sorted(rng.sample(range(slots), rng.choice((1, 1, 1, 2))))
    return ("set", slots - 1 if rng.random() < 0.8 else rng.randrange(slots), tuple((slot, 1) for slot in picked))


def all_forms(program):
    return [own for own in rows_of(program[0][0], len(program[1])) if any(own)]


def times(program, form, factor):
    return tuple(own * factor % program[0][0] for own in form)


class Forms(unittest.TestCase):

    def test_prices(self):
        """Beside naive tables."""
        primes = set()
        for rng, program in programs(1, 45, 25):
            told = Naive(program, 6).told()
            self.assertEqual([own for own in priced_forms(program) if own[1] <= 6], sorted(told.items()), program)
            for most in range(7):
                self.assertEqual(forms_to(program, most), tuple(sorted(form for form in told if told[form] <= most)))
            known = dict(priced_forms(program))
            for form in all_forms(program):
                self.assertEqual(form_price(program, form), known.get(form))
                for factor in range(1, program[0][0]):
                    self.assertEqual(known.get(form), known.get(times(program, form, factor)))
            self.assertEqual(min(known.values(), default=None), least_price(program))
            primes.add(program[0][0])
        self.assertEqual(primes, {2, 3, 5})

    def test_all_runs(self):
        for program, lines in finite_programs(rng_of(2), 60, terms=250):
            found = {}
            for _, terms, form in tellings(program, lines):
                found[form] = min(price(program, terms), found.get(form, 99))
            self.assertEqual(priced_forms(program), sorted(found.items()), program)

    def test_tellings(self):
        none = 0
        for rng, program in programs(3, 70, 32):
            for form in all_forms(program)[:3]:
                least = form_price(program, form)
                for most in (0, 1, 2, 6):
                    found = form_telling(program, form, most)
                    if least is None or least > most:
                        self.assertIsNone(found)
                        none += 1
                        continue
                    self.assertIs(is_telling(program, found), True)
                    self.assertEqual(form_told(program, found), form)
                    self.assertIs(is_form_telling(program, form, most, found), True)
                    own = price_of(program[0], [mark for mark, _ in found[1]])
                    self.assertLessEqual(own, most)
                    self.assertIs(is_form_telling(program, form, own - 1, found), False)
                    others = [more for more in all_forms(program) if more != form]
                    self.assertFalse(any(is_form_telling(program, more, most, found) for more in others))
        self.assertGreater(none, 50)

    def test_tellings_of_calls(self):
        """Calls that keep registers, p 2, 3 and 5: a TELLING of each FORM, not of a multiple."""
        rng, told = rng_of(9), {}
        for _ in range(250):
            program = clean_program(rng, words=("set", "set", "draw", "call", "call", "one", "many"))
            for form, least in priced_forms(program):
                found = form_telling(program, form, least)
                self.assertEqual(form_told(program, found), form, program)
                self.assertEqual(price_of(program[0], [mark for mark, _ in found[1]]), least)
                self.assertIs(is_form_telling(program, form, least, found), True)
                self.assertIs(is_bundle(program, (form,), least, bundle(program, (form,), least)), True)
                told[program[0][0]] = told.get(program[0][0], 0) + 1
        self.assertTrue(min(told.get(prime, 0) for prime in (2, 3, 5)) > 5, told)
        scaled = ((5, (None, None), (("put", 3),)), ((0, 1),), (
            (("call", 1, (0,)), ("one", ((("call", 1, (0, 1)),), (("draw", 1),)))), (("set", 1, ((1, 2),)),)))
        for form, least in priced_forms(scaled):
            self.assertEqual(form_told(scaled, form_telling(scaled, form, 6)), form)

    def test_no_too_many(self):
        """Where least_terms would raise TooMany(): form_telling and bundle do not."""
        keeping = ((2, (None,) * 5, (("put", 1),)), ((0, 1),), (
            (("call", 1, (0, 1, 2)), ("set", 2, ((0, 1),)), ("set", 2, ((1, 1),))), (("call", 2, (0, 1, 2)),), (("draw", 0), ("draw", 1))))
        with self.assertRaises(TooMany):
            cheapest_telling(keeping)
        self.assertIs(is_form_telling(keeping, (1,), 2, form_telling(keeping, (1,), 6)), True)
        self.assertIs(is_bundle(keeping, ((1,),), 2, bundle(keeping, ((1,),), 6)), True)
        self.assertEqual(together(keeping, ((1,),), 6), 2)

    def test_form_telling_things(self):
        good = ((1, 0), (((1, "put"), 1), ((2, "put"), 1)))
        self.assertIs(is_form_telling(deep, (1,), 2, good), True)
        for thing in things_like(good):
            wanted = thing == good and repr(thing) == repr(good)
            if isinstance(thing, tuple) and len(thing) == 2 and is_telling(deep, thing):
                wanted = price_of(deep[0], [mark for mark, _ in thing[1]]) <= 2
            self.assertIs(is_form_telling(deep, (1,), 2, thing), wanted, thing)
        self.assertIs(is_form_telling(deep, (1,), 1, good), False)
        many = ((10 ** 30,), (((4 * 10 ** 29, "put"), 1), ((4 * 10 ** 29 + 2, "turn"), 1)))
        self.assertIs(is_form_telling(turned, (1,), 2, many), is_telling(turned, many))

    def test_shields(self):
        for rng, program in programs(4, 40, 16):
            for form in all_forms(program)[:3]:
                least = form_price(program, form)
                for most in (0, 1, 3):
                    tables = closed_tables(program, most)
                    if least is None or least > most:
                        self.assertEqual(form_shield(program, form, most), tables)
                        self.assertIs(is_form_shield(program, form, most, tables), True)
                    else:
                        with self.assertRaises(CanNot) as caught:
                            form_shield(program, form, most)
                        self.assertEqual(vars(caught.exception), {})
                        self.assertIs(is_form_shield(program, form, most, tables), False)
                    self.assertIs(is_form_shield(program, form, most, list(tables)), False)
                    self.assertIs(is_form_shield(program, form, most, tables[1:]), False)
                    if tables[0]:
                        less = (tables[0][1:], *tables[1:])
                        wanted = are_closed(program, most, less) and form not in self.forms(program, less[0])
                        self.assertIs(is_form_shield(program, form, most, less), wanted)

    def forms(self, program, table):
        return [tuple(own[0][parts[0]] for parts in program[1]) for own in told_by(program, table)]

    def test_shield_of_one_form_alone(self):
        """twin tells (0, 1) at price 2, not (1, 0) nor (1, 1)."""
        tables = closed_tables(twin, 2)
        self.assertEqual([is_form_shield(twin, form, 2, tables) for form in ((0, 1), (1, 0), (1, 1))], [False, True, True])


class Together(unittest.TestCase):

    def test_all_looks(self):
        """Programs with two secrets, and few RUNS: all LOOKS of each."""
        told = apart = 0
        for rng, program, lines in two_secrets(5, 60):
            most = rng.randint(2, 4)
            spaces = {}
            for run, own in lines.items():
                for looks, cost in all_looks(program, own, most):
                    forms = frozenset(forms_by_looks(program, run, looks))
                    spaces[forms] = min(cost, spaces.get(forms, 99))
            for forms in (BOTH, ((0, 1), (1, 1)), ((1, 0), (1, 1)), ((0, 1),), ((1, 1),)):
                wanted = min((cost for own, cost in spaces.items() if own >= set(forms)), default=None)
                self.assertEqual(together(program, forms, most), wanted, (program, forms, most))
                self.bundle(program, forms, most, wanted)
            whole = max((len(own) for own in spaces), default=0) == 3
            lone = sorted({(own,) for forms in spaces for own in forms})
            self.assertEqual(learnt(program, most), [((1, 0), (0, 1))] if whole else lone or [()])
            told += whole
            apart += not whole and len(lone) > 1
        self.assertGreater(told, 3)
        self.assertGreater(apart, 1)

    def bundle(self, program, forms, most, wanted):
        found = bundle(program, forms, most)
        if wanted is None:
            self.assertIsNone(found)
            return
        run, looks = found
        self.assertIs(is_run(program, run), True)
        self.assertIs(is_looks(program, run, looks), True)
        self.assertEqual(price_of(program[0], looks), wanted)
        self.assertTrue(set(forms) <= forms_by_looks(program, run, looks))
        self.assertIs(is_bundle(program, forms, wanted, found), True)
        self.assertIs(is_bundle(program, forms, wanted - 1, found), False)

    def test_endless(self):
        """Any programs: bundles are such, at this price; a greater most changes nothing."""
        told = 0
        for program in self.endless(6, 26):
            prices = [together(program, BOTH, most) for most in range(7)]
            least = prices[6]
            self.assertEqual(prices, [None if least is None or least > most else least for most in range(7)])
            for form in all_forms(program):
                lone = form_price(program, form)
                self.assertTrue(least is None or lone <= least)
                self.assertEqual(together(program, (form,), 6), lone if lone is not None and lone <= 6 else None)
            self.bundle_is_one(program, least)
            told += least is not None
        self.assertGreater(told, 2)

    def endless(self, seed, many):
        """Two secrets, and rounds and rings around some items."""
        for rng, program, _ in two_secrets(seed, many):
            way = program[2][0]
            place = rng.randint(0, len(way))
            blocks = ((*way[:place], ("many", way[place:])), way, ((*way[:place], ("call", 1, ())), (("one", (way[place:], (("call", 1, (0,)),))),)),
                      ((*way[:place], ("call", 1, (4,) if len(program[0][1]) == 5 else (2,))), way[place:]))
            chosen = rng.choice((blocks[:1], *blocks[2:]))
            yield program[0], program[1], chosen

    def bundle_is_one(self, program, least):
        found = bundle(program, BOTH, 6)
        if least is None:
            self.assertIsNone(found)
            return
        run, looks = found
        self.assertEqual(price_of(program[0], looks), least)
        self.assertIs(is_bundle(program, BOTH, least, found), True)
        if len(Play(program, run).lines) <= 12:
            self.assertEqual(len(forms_by_looks(program, run, looks)), 3)

    def test_one_form(self):
        for rng, program in programs(7, 80, 27):
            for form in all_forms(program)[-2:]:
                least = form_price(program, form)
                wanted = least if least is not None and least <= 3 else None
                self.assertEqual(together(program, (form,), 3), wanted)
                self.bundle_of_one(program, form, wanted)

    def bundle_of_one(self, program, form, wanted):
        found = bundle(program, (form,), 3)
        self.assertIs(found is None, wanted is None)
        if found is not None:
            self.assertIs(is_bundle(program, (form,), wanted, found), True)
            self.assertIs(is_bundle(program, (form,), wanted - 1, found), False)

    def test_looks_are_not_added_up(self):
        """What is told in unlike RUNS is not told together; what is told by one mark twice is paid once."""
        self.assertEqual([together(fork, forms, 6) for forms in (BOTH, ((0, 1),), ((1, 0),), ((1, 1),))], [None, 2, 2, None])
        self.assertEqual(learnt(fork, 6), [((0, 1),), ((1, 0),)])
        shared = ((2, (None,) * 5, (("put", 1),)), ((0, 1), (2, 3)), ((
            ("set", 4, ((0, 1), (2, 1))), ("set", 4, ((1, 1), (2, 1))), ("set", 4, ((2, 1),)), ("set", 4, ((3, 1), (2, 1)))),))
        self.assertEqual(priced_forms(shared), [((0, 1), 1), ((1, 0), 2), ((1, 1), 3)])
        self.assertEqual(together(shared, BOTH, 6), 3)

    def test_put_beside_read(self):
        """Both forms by a put and a read of one LINE."""
        reads = ((2, (None,) * 5, (("put", 1), ("read", 1))), ((0, 1), (2, 3)), ((
            ("set", 4, ((0, 1), (1, 1), (2, 1), (3, 1))),),))
        self.assertEqual([together(reads, forms, 6) for forms in (BOTH, ((1, 1), (0, 1)))], [2, 2])
        self.assertEqual(priced_forms(reads), [((0, 1), 1), ((1, 0), 1), ((1, 1), 1)])
        self.assertEqual(bundle(reads, BOTH, 6)[1][0], (0, "put"))

    def test_is_bundle(self):
        good = ((), ((0, "put"), (1, "put"), (2, "put"), (3, "put")))
        self.assertIs(is_bundle(twin, BOTH, 4, good), True)
        self.assertIs(is_bundle(twin, BOTH, 3, good), False)
        self.assertIs(is_bundle(twin, ((1, 1),), 4, good), True)
        lines = Play(twin, ()).lines
        for thing in things_like(good):
            wanted = False
            if type(thing) is tuple and len(thing) == 2 and thing[0] == () and predicates.looks(twin, lines, thing[1]):
                cost = price_of(twin[0], thing[1])
                wanted = cost <= 4 and len(forms_by_looks(twin, (), thing[1])) == 3
            self.assertIs(is_bundle(twin, BOTH, 4, thing), wanted, thing)

    def test_is_bundle_by_all_looks(self):
        for rng, program, lines in two_secrets(8, 20):
            for run, own in lines.items():
                for looks, cost in all_looks(program, own, 4)[:200]:
                    forms = forms_by_looks(program, run, looks)
                    for wanted in (BOTH, ((1, 1),)):
                        self.assertIs(is_bundle(program, wanted, 4, (run, looks)), set(wanted) <= forms)
                        self.assertIs(is_bundle(program, wanted, cost - 1, (run, looks)), False)

    def test_long_runs(self):
        times_ = 10 ** 30
        looks = ((4 * times_ // 2, "put"), (4 * times_ // 2 + 2, "turn"))
        self.assertIs(is_bundle(turned, ((1,),), 2, ((times_,), looks)), True)
        self.assertIs(is_bundle(turned, ((1,),), 1, ((times_,), looks)), False)
        self.assertIs(is_bundle(turned, ((1,),), 2, ((1,), looks)), False)
        self.assertIs(is_bundle(turned, ((1,),), 2, ((True,), looks)), False)

    def test_learnt(self):
        for program, most, wanted in ((renew, 2, [()]), (renew, 3, [((1,),)]), (bus, 1, [((1,),)]), (thrice, 1, [((1,),)]),
                                      (deep, 1, [()]), (tiny, 0, [()]), (tiny, 1, [((1,),)]), (turned, 6, [((1,),)])):
            self.assertEqual(learnt(program, most), wanted)

    def test_too_many(self):
        three = ((2, (None,) * 6, plain), ((0, 1), (2, 3), (4, 5)), ((("set", 0, ((0, 1), (1, 1))),),))
        with self.assertRaises(TooMany) as caught:
            learnt(three, 1)
        self.assertEqual(vars(caught.exception), {})
        self.assertEqual(priced_forms(three), [((1, 0, 0), 1)])


if __name__ == "__main__":
    unittest.main()
