"""[16]: persons and groups, beside all terms of all RUNS."""

import itertools
import unittest

from predicates import is_set
from anydlooks.askings import least_terms
from anydlooks.errors import NoPerson, TooMany, Unfit
from anydlooks.forms import form_told, is_telling
from anydlooks.least import are_relations, least_price
from anydlooks.persons import (
    group_telling, groups_for, is_group_telling, is_persons, is_quiet_paper, learning_groups, learns, learnt_forms,
    least_cuts, quiet_groups, quiet_paper, rest_price, rest_telling, seen_marks,
)
from anydlooks.runs import lines_of, runs_to
from reckon import (
    Play, all_marks, clean_program, length_of, nest, rng_of, rows_of, some_runs, things_like,
)
from samples import bus, crowd, deep, renew, small, thrice, turned
from whole import Naive, bad_form, finite_programs, forms_by_looks, lesser, tellings


def all_pairs(program):
    slots, lying = len(program[0][1]), {bus for bus in program[0][1] if bus is not None}
    return sorted([(word, slot) for word in ("put", "read", "turn") for slot in range(slots)] + [("pass", own) for own in lying])


def random_persons(rng, program, many=3, most=3):
    pairs = all_pairs(program)
    return tuple(tuple(sorted(rng.sample(pairs, rng.randint(0, min(most, len(pairs)))))) for _ in range(rng.randint(1, many)))


def pairs_of(persons, group):
    return sorted({pair for number in group for pair in persons[number]})


def sees(program, pairs, line, word):
    return (word, program[0][1][line[1]] if word == "pass" else line[1]) in pairs


def rest_by(program, pairs, lines, terms):
    prices = dict(program[0][2])
    return sum(prices[mark[1]] for mark, _ in terms if not sees(program, pairs, lines[mark[0]], mark[1]))


def all_groups(many):
    return sorted(group for size in range(many + 1) for group in itertools.combinations(range(many), size))


class Seen(Naive):
    """Naive RELATIONS by the marks alone that the pairs see."""

    def __init__(self, program, pairs):
        super().__init__(program, 0, free=True)
        self.pairs = pairs

    def part(self, line):
        """The program with the sorts alone that are seen at the LINE."""
        sorts = tuple(own for own in self.machine[2] if sees(self.program, self.pairs, line, own[0]))
        return (*self.machine[:2], sorts)

    def line(self, line):
        machine, self.machine = self.machine, self.part(line)
        try:
            return super().line(line)
        finally:
            self.machine = machine

    def call(self, kept, table):
        found = table
        for slot in kept:
            machine, self.machine = self.machine, self.part(("back", slot, 0))
            self.known.pop(("kept", (slot,)), None)
            found = super().call((slot,), found)
            self.machine = machine
        return found


class Groups(unittest.TestCase):

    def test_seen_marks(self):
        rng = rng_of(1)
        for _ in range(150):
            program = clean_program(rng)
            persons = random_persons(rng, program)
            for run in some_runs(program, 6, 4, 4):
                lines = Play(program, run).lines
                for group in all_groups(len(persons)):
                    pairs = pairs_of(persons, group)
                    wanted = [mark for number, line in enumerate(lines) for mark in all_marks(program, lines, number)
                              if sees(program, pairs, line, mark[1]) and (len(mark) < 3 or sum(mark[2]) == 1)]
                    self.assertEqual(seen_marks(program, persons, group, run), tuple(sorted(wanted)))

    def test_all_runs(self):
        """Where there are few RUNS: all terms by what is seen."""
        rng, told = rng_of(2), 0
        for program, lines in finite_programs(rng, 60, terms=250):
            every = tellings(program, lines)
            for _ in range(3):
                persons = random_persons(rng, program)
                group = rng.choice(all_groups(len(persons)))
                pairs = pairs_of(persons, group)
                rests = [(rest_by(program, pairs, lines[run], terms), lesser(program, run), form) for run, terms, form in every]
                forms = tuple(sorted({form for rest, _, form in rests if rest == 0}))
                self.assertEqual(learnt_forms(program, persons, group), forms, (program, persons, group))
                self.assertIs(learns(program, persons, group), bool(forms))
                free = [order for rest, order, _ in rests if rest == 0]
                self.group_telling(program, persons, group, min(free)[2] if free else None)
                least = min(rests, default=(99, (0, 0, None), None))
                self.rests(program, persons, group, least)
                told += bool(forms)
        self.assertGreater(told, 10)

    def group_telling(self, program, persons, group, run):
        found = group_telling(program, persons, group)
        if run is None:
            self.assertIsNone(found)
            return
        self.assertEqual(found[0], run)
        self.assertIs(is_telling(program, found), True)
        self.assertIs(is_group_telling(program, persons, group, found), True)
        self.assertIn(form_told(program, found), learnt_forms(program, persons, group))

    def rests(self, program, persons, group, least):
        for most in (0, 1, 2, 4, 6):
            if least[0] > most:
                self.assertIsNone(rest_price(program, persons, group, most))
                self.assertIsNone(rest_telling(program, persons, group, most))
                continue
            self.assertEqual(rest_price(program, persons, group, most), least[0])
            run, terms = rest_telling(program, persons, group, most)
            self.assertEqual(run, least[1][2])
            self.assertIs(is_telling(program, (run, terms)), True)
            self.assertEqual(rest_by(program, pairs_of(persons, group), lines_of(program, run), terms), least[0])

    def test_endless(self):
        """Rounds and rings: lesser RUNS tell nothing to the group; papers where it does not learn."""
        rng, told, quiet = rng_of(3), 0, 0
        for _ in range(300):
            program = clean_program(rng, size=2)
            persons = random_persons(rng, program, 1, 5)
            paper, found = quiet_paper(program, persons, (0,)), group_telling(program, persons, (0,))
            self.assertIs(paper is None, learns(program, persons, (0,)))
            self.assertIs(found is None, paper is not None)
            if paper is not None:
                quiet += 1
                self.assertIs(is_quiet_paper(program, persons, (0,), paper), True)
                self.assertEqual(learnt_forms(program, persons, (0,)), ())
                continue
            told += 1
            lines = lines_of(program, found[0])
            for run in self.runs_to(program, len(lines)):
                if run == found[0]:
                    break
                self.assertFalse(self.tells(program, persons, run), (program, persons, run))
        self.assertGreater(told, 15)
        self.assertGreater(quiet, 30)

    def runs_to(self, program, lines):
        try:
            return runs_to(program, min(lines, 5))
        except TooMany:
            return []

    def tells(self, program, persons, run):
        """Whether what is seen in one RUN tells: by sums of what it shows."""
        marks = seen_marks(program, persons, (0,), run)
        return len(marks) <= 5 and bool(forms_by_looks(program, run, marks))

    def test_sets_of_groups(self):
        rng, cases_ = rng_of(4), 0
        for _ in range(60):
            program = clean_program(rng, size=2)
            persons = random_persons(rng, program, 4, 2)
            every = all_groups(len(persons))
            known = {group: learns(program, persons, group) for group in every}
            learning = [group for group in every if known[group]]
            least = [group for group in learning if not any(set(own) < set(group) for own in learning)]
            self.assertEqual(learning_groups(program, persons), sorted(least))
            quiet = [group for group in every if not known[group]]
            greatest = [group for group in quiet if not any(set(own) > set(group) for own in quiet)]
            self.assertEqual(quiet_groups(program, persons), sorted(greatest))
            for form in rows_of(program[0][0], len(program[1]))[1:4]:
                own = [group for group in every if form in learnt_forms(program, persons, group)]
                self.assertEqual(groups_for(program, persons, form),
                                 sorted(group for group in own if not any(set(more) < set(group) for more in own)))
            cases_ += len(least) > 0
        self.assertGreater(cases_, 10)

    def test_cuts(self):
        rng, found = rng_of(5), 0
        for _ in range(250):
            program = clean_program(rng, size=3)
            persons = random_persons(rng, program, 3, 3)
            group = tuple(range(len(persons)))
            pairs = pairs_of(persons, group)
            if len(pairs) > 6:
                with self.assertRaises(TooMany) as caught:
                    least_cuts(program, persons, group)
                self.assertEqual(vars(caught.exception), {})
                continue
            cuts = []
            for size in range(len(pairs) + 1):
                for cut in itertools.combinations(pairs, size):
                    left = tuple(tuple(pair for pair in own if pair not in cut) for own in persons)
                    if not learns(program, left, group) and not any(set(own) < set(cut) for own in cuts):
                        cuts.append(cut)
            self.assertEqual(least_cuts(program, persons, group), sorted(cuts))
            found += len(cuts) > 1
        self.assertGreater(found, 2)
        self.assertEqual(least_cuts(bus, crowd, ()), [()])
        self.assertEqual(least_cuts(renew, ((("put", 3),),), (0,)), [()])

    def test_all_seen(self):
        """Who sees all learns just if anything is ever told; who sees nothing pays all."""
        rng = rng_of(6)
        for _ in range(60):
            program = clean_program(rng, size=3)
            persons = (tuple(all_pairs(program)), ())
            least = least_price(program)
            self.assertIs(learns(program, persons, (0,)), least is not None)
            self.assertIs(learns(program, persons, (1,)), False)
            self.assertIs(learns(program, persons, ()), False)
            self.assertEqual(rest_price(program, persons, (1,), 6), least if least is not None and least <= 6 else None)
            self.assertEqual(rest_price(program, persons, (0,), 0), 0 if least is not None else None)

    def test_what_the_machine_has_not(self):
        """Sorts that are not there show nothing."""
        persons = ((("read", 2), ("turn", 2)), (("pass", 0), ("read", 3)))
        puts = ((*bus[0][:2], (("put", 1),)), *bus[1:])
        self.assertEqual(seen_marks(puts, persons, (0, 1), ()), ())
        self.assertIs(learns(puts, persons, (0, 1)), False)
        self.assertEqual(rest_price(puts, persons, (0, 1), 6), 2)

    def test_reads(self):
        person = ((("read", 1),),)
        self.assertEqual(seen_marks(thrice, person, (0,), ()), ((0, "read", (0, 1)), (0, "read", (1, 0))))
        self.assertEqual(learnt_forms(thrice, person, (0,)), ((1,), (2,)))
        self.assertIs(is_group_telling(thrice, person, (0,), ((), (((0, "read", (2, 2)), 1),))), True)
        self.assertIs(is_group_telling(thrice, person, (0,), ((), (((0, "turn"), 2),))), False)

    def test_too_many(self):
        """rest_telling raises it where least_terms does, the others do not."""
        keeping = ((2, (None,) * 5, (("put", 1),)), ((0, 1),), (
            (("call", 1, (0, 1, 2)), ("set", 2, ((0, 1),)), ("set", 2, ((1, 1),))), (("call", 2, (0, 1, 2)),), (("draw", 0), ("draw", 1))))
        persons = ((("put", 2),), ())
        with self.assertRaises(TooMany):
            least_terms(keeping, ())
        with self.assertRaises(TooMany) as caught:
            rest_telling(keeping, persons, (0,), 6)
        self.assertEqual(vars(caught.exception), {})
        self.assertIs(is_group_telling(keeping, persons, (0,), group_telling(keeping, persons, (0,))), True)
        self.assertEqual([rest_price(keeping, persons, (number,), 6) for number in (0, 1)], [0, 2])
        self.assertIsNone(rest_telling(keeping, persons, (1,), 1))


class Papers(unittest.TestCase):

    def test_least(self):
        """Beside naive RELATIONS by what is seen."""
        rng, papers = rng_of(7), 0
        while papers < 40:
            program = clean_program(rng, size=3)
            if program[0][0] ** length_of(program[0]) > 25:
                continue
            persons = random_persons(rng, program, 2, 4)
            group = tuple(range(len(persons)))
            pairs = pairs_of(persons, group)
            naive = Seen(program, pairs).least()
            wanted = tuple(tuple(sorted(own)) for own in naive)
            quiet = (0,) * length_of(program[0])
            bad = any(own[1] == quiet and bad_form(program, own[0]) for own in wanted[0])
            self.assertIs(learns(program, persons, group), bad, (program, persons))
            self.assertIs(is_quiet_paper(program, persons, group, wanted), not bad)
            if not bad:
                papers += 1
                self.changed(rng, program, persons, (group, pairs), wanted)

    def changed(self, rng, program, persons, seen, paper):
        group, pairs = seen
        askings = rows_of(program[0][0], length_of(program[0]))
        for _ in range(5):
            changed = [dict.fromkeys(own, 0) for own in paper]
            for _ in range(rng.randint(1, 2)):
                table, key = rng.choice(changed), (rng.choice(askings), rng.choice(askings))
                if rng.random() < 0.3 and table:
                    del table[rng.choice(sorted(table))]
                else:
                    table[key] = 0
            made = Seen(program, pairs).made(changed)
            wanted = all(set(more) <= set(table) for table, more in zip(changed, made))
            wanted = wanted and not any(not any(own[1]) and bad_form(program, own[0]) for own in changed[0])
            thing = tuple(tuple(sorted(own)) for own in changed)
            self.assertIs(is_quiet_paper(program, persons, group, thing), wanted)

    def test_papers_of_all_marks(self):
        """A paper for all marks is one for any group."""
        rng = rng_of(8)
        for _ in range(60):
            program = clean_program(rng, size=2)
            persons = random_persons(rng, program)
            paper = quiet_paper(program, persons, (0,))
            everything = (tuple(all_pairs(program)),)
            if paper is not None and are_relations(program, paper):
                self.assertIs(is_quiet_paper(program, everything, (0,), paper), True)

    def test_things(self):
        good = quiet_paper(bus, crowd, (1,))
        self.assertIs(is_quiet_paper(bus, crowd, (1,), good), True)
        self.assertIs(is_quiet_paper(bus, crowd, (0,), good), False)
        self.assertIs(is_quiet_paper(bus, crowd, (1, 2), good), False)
        for thing in (None, (), good * 2, list(good), (list(good[0]),), (good[0][::-1],), (good[0] + ((1, 2),),), nest(30), "", 0):
            self.assertIs(is_quiet_paper(bus, crowd, (1,), thing), False)
        self.assertIsNone(quiet_paper(bus, crowd, (0, 1)))
        telling = group_telling(bus, crowd, (1, 2))
        for thing in things_like(telling):
            wanted = isinstance(thing, tuple) and is_telling(bus, thing)
            wanted = wanted and all(mark[1] == "put" for mark, _ in thing[1])
            self.assertIs(is_group_telling(bus, crowd, (1, 2), thing), wanted, thing)
        far = ((10 ** 30,), (((0, "turn"), 1), ((12 * 10 ** 20 + 8, "turn"), 1)))
        self.assertIs(is_group_telling(turned, ((("turn", 3),),), (0,), far), is_telling(turned, far))
        self.assertIs(is_telling(turned, far), True)
        self.assertIs(is_group_telling(turned, ((("turn", 2),),), (0,), far), False)

    def test_is_persons(self):
        def pair(own):
            return (type(own) is tuple and len(own) == 2 and type(own[0]) is str and type(own[1]) is int
                    and (own[0] == "pass" and own[1] == 0 or own[0] in ("put", "read", "turn") and 0 <= own[1] < 4))
        for thing in [*things_like(crowd), *things_like(((("pass", 0), ("put", 3), ("read", 0), ("turn", 3)), ()))]:
            wanted = type(thing) is tuple and thing != () and all(is_set(own, pair) for own in thing)
            self.assertIs(is_persons(bus, thing), wanted, thing)
        self.assertIs(is_persons(bus, ((),) * 50), True)
        self.assertIs(is_persons(renew, ((("pass", 0),),)), False)
        self.assertIs(is_persons(bus, [()]), False)


class Errors(unittest.TestCase):

    def calls(self, group):
        yield lambda: learns(bus, crowd, group)
        yield lambda: learnt_forms(bus, crowd, group)
        yield lambda: group_telling(bus, crowd, group)
        yield lambda: is_group_telling(bus, crowd, group, None)
        yield lambda: quiet_paper(bus, crowd, group)
        yield lambda: is_quiet_paper(bus, crowd, group, None)
        yield lambda: rest_price(bus, crowd, group, 3)
        yield lambda: rest_telling(bus, crowd, group, 3)
        yield lambda: least_cuts(bus, crowd, group)
        yield lambda: seen_marks(bus, crowd, group, (5,))

    def test_no_person(self):
        for group, number in (((3,), 3), ((0, 4, 9), 4), ((-1, 5), -1), ([1, 10 ** 30], 10 ** 30)):
            for call in self.calls(group):
                with self.assertRaises(NoPerson) as caught:
                    call()
                self.assertEqual(vars(caught.exception), {"number": number})

    def test_unfit(self):
        with self.assertRaises(Unfit) as caught:
            seen_marks(bus, crowd, (0,), (5,))
        self.assertEqual(vars(caught.exception), {})
        with self.assertRaises(Unfit):
            seen_marks(deep, ((("put", 0),),), (0,), (1,))

    def test_no_person_ahead_of_too_many(self):
        many = (tuple(all_pairs(bus)),)
        with self.assertRaises(NoPerson):
            least_cuts(bus, many, (0, 1))
        with self.assertRaises(TooMany):
            least_cuts(bus, many, (0,))

    def test_edges(self):
        empty = (small, ((0, 1),), ((),))
        self.assertEqual((learning_groups(empty, crowd[:1]), quiet_groups(empty, crowd[:1])), ([], [(0,)]))
        self.assertEqual(seen_marks(empty, crowd[:1], (0,), ()), ())
        self.assertEqual(learning_groups(bus, ((),)), [])
        self.assertEqual(quiet_groups(bus, (crowd[0],)), [()])


if __name__ == "__main__":
    unittest.main()
