"""[24]: CLAIMS beside all LOOKS of all RUNS, PAPERS and REASONS beside what the points tell of them."""

import unittest

from anydlooks.chances import is_cover
from anydlooks.closed import closed_tables, is_shield
from anydlooks.each import is_reach, reach
from anydlooks.errors import TooMany, Unfit
from anydlooks.judge import first_fallen, is_claim, is_paper_against, is_reason_for, paper_against, reason_for, stands
from anydlooks.least import cheapest_telling, is_never_paper, least_relations, least_telling
from anydlooks.persons import is_quiet_paper
from anydlooks.sums import is_form_shield
import predicates
from predicates import below, is_set, residues
from reckon import Play, all_terms, clean_program, form_of_spread, is_number, price, rng_of, rows_of, some_runs, spread, things_like
from samples import bus, crowd, deep, half, lost, renew, thrice, tiny, turned, twin
from test_persons import all_groups, all_pairs, pairs_of, random_persons, sees
from whole import bad_form, finite_programs, height_by, tellings
from test_sources import fruitful_by, reached_by


def is_claim_by(thing):
    if type(thing) is not tuple or len(thing) < 2 or type(thing[0]) is not str or not predicates.program(thing[1]):
        return False
    word, program, rest = thing[0], thing[1], thing[2:]
    if not all(fruitful_by(program[2])) or reached_by(program[2]) != set(range(len(program[2]))):
        return False
    if word == "never":
        return rest == ()
    if word in ("safe", "each"):
        return len(rest) == 1 and is_number(rest[0]) and rest[0] >= 0
    if len(rest) != 2:
        return False
    if word == "hides":
        lines = predicates.lines_if_run(program, rest[0])
        return lines is not None and predicates.looks(program, lines, rest[1])
    if word == "form":
        return residues(rest[0], program[0][0], len(program[1])) and any(rest[0]) and is_number(rest[1]) and rest[1] >= 0
    return word == "quiet" and are_persons(program, rest[0]) and is_set(rest[1], lambda own: below(own, len(rest[0])))


def are_persons(program, thing):
    pairs = all_pairs(program)

    def is_pair(own):
        return type(own) is tuple and len(own) == 2 and type(own[0]) is str and is_number(own[1]) and own in pairs
    return type(thing) is tuple and thing != () and all(is_set(own, is_pair) for own in thing)


def form_of(program, run, terms):
    """The FORM that terms of a RUN tell; None if they are no TELLING."""
    row = spread(program, run, lambda play: sum(residue * play.shown(mark) for mark, residue in terms) % program[0][0])
    return form_of_spread(program, row) if terms else None


def is_too_long(thing):
    """Whether thing has a run with a number that is too great to be played."""
    runs = [own for own in thing[:1] if type(own) is tuple] if type(thing) is tuple else []
    return any(type(number) is int and number >= 1000 for run in runs for number in run)


def is_against(claim, thing):
    """Whether thing is a PAPER against the claim, by playing it."""
    word, program, rest = claim[0], claim[1], claim[2:]
    if type(thing) is not tuple or len(thing) != 2:
        return False
    run, terms = thing
    lines = predicates.lines_if_run(program, run)
    if lines is None or not predicates.terms(program, lines, terms) or form_of(program, run, terms) is None:
        return False
    return is_one_of_those(word, program, rest, lines, run, terms)


def is_one_of_those(word, program, rest, lines, run, terms):
    """Whether a TELLING is one of those that are PAPERS against such a CLAIM."""
    marks = [mark for mark, _ in terms]
    if word == "never":
        return True
    if word == "safe":
        return price(program, terms) <= rest[0]
    if word == "each":
        return height_by(program, run, marks) <= rest[0]
    if word == "hides":
        return run == rest[0] and set(marks) <= set(rest[1])
    if word == "form":
        return form_of(program, run, terms) == rest[0] and price(program, terms) <= rest[1]
    pairs = pairs_of(*rest)
    return all(sees(program, pairs, lines[mark[0]], mark[1]) for mark in marks)


def is_reason_by(claim, thing):
    """As the points tell what is a REASON."""
    word, program, rest = claim[0], claim[1], claim[2:]
    if word == "each":
        quiet = (0,) * len(reach(program, 0)[0][0][0])
        return is_reach(program, rest[0], thing) and not any(
            behind == quiet and bad_form(program, ahead) for ahead, behind in thing[0])
    call = {"safe": is_shield, "never": is_never_paper, "hides": is_cover, "form": is_form_shield, "quiet": is_quiet_paper}[word]
    return call(program, *rest, thing)


def claims_of(rng, program, lines):
    """Some CLAIMS of each kind."""
    found = [("never", program)]
    found += [("safe", program, most) for most in range(4)] + [("each", program, most) for most in range(3)]
    forms = [form for form in rows_of(program[0][0], len(program[1])) if any(form)]
    found += [("form", program, rng.choice(forms), most) for most in range(4)]
    for run in list(lines)[:4]:
        terms = [own for own in all_terms(program, lines[run])]
        looks = [tuple(sorted(mark for mark, _ in rng.choice(terms))) for _ in range(3)]
        found += [("hides", program, run, own) for own in looks]
    for _ in range(3):
        persons = random_persons(rng, program)
        found.append(("quiet", program, persons, rng.choice(all_groups(len(persons)))))
    return found


def raises_too_many(claim):
    try:
        cheapest_telling(claim[1]) if claim[0] == "never" else least_telling(claim[1], claim[2])
    except TooMany:
        return True
    return False


def cheap(program):
    """Whether tables of it are soon made."""
    return program[0][0] ** (len(program[0][1]) + len({own for own in program[0][1] if own is not None})) <= 16


class Judge(unittest.TestCase):

    def test_all_looks(self):
        """Where there are few RUNS: beside all TELLINGS."""
        rng, told = rng_of(1), {}
        for program, lines in finite_programs(rng, 40, terms=200):
            every = tellings(program, lines)
            for claim in claims_of(rng, program, lines):
                against = [(run, terms) for run, terms, _ in every
                           if is_one_of_those(claim[0], program, claim[2:], lines[run], run, terms)]
                self.claim(claim, against)
                told.setdefault((claim[0], not against), []).append(claim)
                for run, terms, _ in rng.sample(every, min(len(every), 8)):
                    self.assertIs(is_paper_against(claim, (run, terms)), (run, terms) in against, claim)
        self.assertEqual(len(told), 12)
        self.assertGreater(min(map(len, told.values())), 4)

    def claim(self, claim, against):
        self.assertIs(is_claim(claim), True)
        self.assertIs(stands(claim), not against, claim)
        paper = paper_against(claim)
        self.assertIs(paper is None, not against)
        if against:
            self.assertIn(paper, against)
            self.assertIs(is_paper_against(claim, paper), True)
        if cheap(claim[1]) or claim[0] == "hides":
            reason = reason_for(claim)
            self.assertIs(reason is None, bool(against))
            if reason is not None:
                self.assertIs(is_reason_for(claim, reason), True)
                self.assertIs(is_reason_by(claim, reason), True)

    def test_endless(self):
        """Any programs: papers are such, reasons are such, and the kinds fit one another."""
        rng, fallen = rng_of(2), 0
        for _ in range(40):
            program = clean_program(rng, size=3)
            runs = some_runs(program, 5, 4, 3)
            lines = {run: Play(program, run).lines for run in runs}
            lines = {run: own for run, own in lines.items() if len(own) <= 3}
            for claim in claims_of(rng, program, lines):
                good = stands(claim)
                if not good and claim[0] in ("safe", "never") and raises_too_many(claim):
                    with self.assertRaises(TooMany):
                        paper_against(claim)
                    continue
                paper = paper_against(claim)
                self.assertIs(paper is None, good)
                if paper is not None:
                    fallen += 1
                    self.assertIs(is_paper_against(claim, paper), True)
                    self.assertIs(is_against(claim, paper), True)
                elif cheap(program):
                    self.assertIs(is_reason_for(claim, reason_for(claim)), True)
                else:
                    continue
                if paper is not None and cheap(program):
                    self.assertIsNone(reason_for(claim))
            for most in range(4):
                safe = stands(("safe", program, most))
                forms = [form for form in rows_of(program[0][0], len(program[1])) if any(form)]
                self.assertIs(safe, all(stands(("form", program, form, most)) for form in forms))
                self.assertTrue(safe or not stands(("each", program, most)))
                self.assertTrue(safe or not stands(("never", program)))
        self.assertGreater(fallen, 100)

    def test_things_against(self):
        """Things made of PAPERS, by playing."""
        rng = rng_of(3)
        claims = (("safe", deep, 2), ("safe", deep, 1), ("never", bus), ("hides", renew, (), ((2, "put"), (3, "put"), (4, "put"))),
                  ("form", twin, (0, 1), 2), ("form", twin, (1, 1), 3), ("each", turned, 1), ("quiet", bus, crowd, (1, 2)),
                  ("quiet", bus, crowd, (0,)), ("never", thrice), ("safe", tiny, 0))
        papers = [paper for paper in map(paper_against, claims) if paper is not None]
        self.assertGreater(len(papers), 7)
        for claim in claims:
            for paper in papers:
                things = [thing for thing in things_like(paper) if not is_too_long(thing)]
                for thing in [paper, *rng.sample(things, min(60, len(things)))]:
                    self.assertIs(is_paper_against(claim, thing), is_against(claim, thing), (claim, thing))

    def test_things_for(self):
        """Things made of REASONS, as the points tell."""
        rng = rng_of(4)
        claims = (("safe", tiny, 0), ("never", half), ("hides", renew, (), ((2, "put"), (3, "put"))), ("form", tiny, (1,), 0),
                  ("each", tiny, 0), ("quiet", half, ((("put", 2),), ()), (0, 1)))
        reasons = [reason_for(claim) for claim in claims]
        self.assertNotIn(None, reasons)
        for claim in claims:
            for reason in reasons:
                things = things_like(reason)
                for thing in [reason, *rng.sample(things, min(40, len(things)))]:
                    self.assertIs(is_reason_for(claim, thing), is_reason_by(claim, thing), (claim, thing))

    def test_closed_but_telling(self):
        """What is closed, but tells, is no REASON."""
        for claim, thing in ((("safe", tiny, 1), closed_tables(tiny, 1)), (("each", tiny, 1), reach(tiny, 1)),
                             (("never", tiny), least_relations(tiny)), (("form", tiny, (1,), 1), closed_tables(tiny, 1)),
                             (("quiet", tiny, ((("turn", 0),),), (0,)), least_relations(tiny)),
                             (("hides", bus, (), ((1, "pass"),)), ((1, 0, 0, 0),))):
            self.assertIs(stands(claim), False)
            self.assertIsNone(reason_for(claim))
            self.assertIs(is_reason_for(claim, thing), False)
        self.assertIs(is_reach(tiny, 1, reach(tiny, 1)), True)

    def test_is_claim(self):
        looks, told = ((2, "put"), (3, "put")), ()
        claims = (("safe", deep, 2), ("never", bus), ("hides", renew, (), looks), ("hides", deep, (1, 0), told), ("form", twin, (0, 1), 2),
                  ("each", turned, 1), ("quiet", bus, crowd, (1, 2)), ("quiet", bus, (told,), told))
        rng = rng_of(5)
        for claim in claims:
            self.assertIs(is_claim(claim), True)
            things = things_like(claim)
            for thing in [*rng.sample(things, min(250, len(things))), *(("other", *claim[1:]), claim[:1], claim + (0,))]:
                good = is_claim_by(thing)
                self.assertIs(is_claim(thing), good, thing)
                if not good and not isinstance(thing, (list, tuple)):
                    with self.assertRaises(Unfit):
                        stands(thing)
        for thing in (("safe", lost, 1), ("never", lost), ("quiet", bus, (), ()), ("quiet", bus, crowd, (2, 1)), ("quiet", bus, crowd, (3,)),
                      ("quiet", bus, crowd, (-1,)), ("form", twin, (0, 0), 1), ("form", twin, (1,), 1), ("form", twin, (0, 2), 1),
                      ("hides", deep, (1,), ()), ("hides", deep, (0,), ((1, "put"),)), ("hides", renew, (), looks[::-1]),
                      ("hides", renew, (), (looks[0], looks[0])), ("safe", deep, True), ("each", deep, None), ("never", deep, 1), (), "safe"):
            self.assertIs(is_claim(thing), False, thing)
        for thing in (("safe", deep, 10 ** 30), ("each", deep, 10 ** 30), ("form", twin, (0, 1), 10 ** 30), ("safe", deep, 7),
                      ("quiet", bus, crowd * 5, tuple(range(15))), ("hides", turned, (10 ** 30,), ((10 ** 30, "put"),))):
            self.assertIs(is_claim(thing), True, thing)

    def test_unfit_first(self):
        calls = (stands, paper_against, reason_for, lambda claim: is_paper_against(claim, None), lambda claim: is_reason_for(claim, ()))
        for claim in (("safe", deep, -1), ("safe", deep), ("sure", deep, 1), ("never", lost), ("hides", renew, (), ((0, "pass"),)),
                      ("hides", deep, (0, 0), ()), ("quiet", bus, crowd, (4,)), ("form", deep, (2,), 1), None, (), 7, ("safe",), "never",
                      ("each", deep, True)):
            for call in calls:
                with self.assertRaises(Unfit) as caught:
                    call(claim)
                self.assertEqual(vars(caught.exception), {})

    def test_first_fallen(self):
        good, bad, other = ("safe", deep, 1), ("safe", deep, 2), ("never", bus)
        self.assertIsNone(first_fallen(()))
        self.assertIsNone(first_fallen((good, good, ("never", half))))
        for claims, number in (((bad,), 0), ((good, bad, other), 1), ((good, other, bad), 1), ([list(good), list(other)], 1), ((good,) * 4 + (bad,), 4)):
            found = first_fallen(claims)
            self.assertEqual(found[0], number)
            self.assertIs(is_paper_against(claims[number], found[1]), True)
            self.assertIs(type(found), tuple)
        for claims in ((bad, ("safe", deep, -1)), (good, ("what", deep)), (bad, good, None)):
            with self.assertRaises(Unfit):
                first_fallen(claims)

    def test_too_many(self):
        """As least_telling and cheapest_telling do; not for those behind the one told."""
        way = (("draw", 2),)
        for number in range(6):
            way = (("set", 0, ((0, 1), (2, 1))), ("set", 1, ((1, 1), (2, 1))))
        blocks = [(("call", number + 1, (0, 1, 2, 3)),) for number in range(4)]
        program = (2, (None,) * 4, (("put", 1),)), ((0, 1),), (*blocks, (("draw", 2), *way))
        with self.assertRaises(TooMany):
            least_telling(program, 2)
        with self.assertRaises(TooMany):
            cheapest_telling(program)
        for claim in (("safe", program, 2), ("never", program)):
            self.assertIs(stands(claim), False)
            self.assertIsNone(reason_for(claim))
            with self.assertRaises(TooMany) as caught:
                paper_against(claim)
            self.assertEqual(vars(caught.exception), {})
            with self.assertRaises(TooMany):
                first_fallen((("safe", deep, 1), claim))
            self.assertEqual(first_fallen((("safe", deep, 2), claim))[0], 0)
        self.assertIs(stands(("safe", program, 0)), True)
        self.assertIsNone(paper_against(("safe", program, 0)))
        self.assertIs(is_paper_against(("form", program, (1,), 2), paper_against(("form", program, (1,), 2))), True)

    def test_lists(self):
        claim = ["quiet", [list(own) for own in bus], [[list(pair) for pair in own] for own in crowd], [1, 2]]
        self.assertIs(stands(claim), stands(("quiet", bus, crowd, (1, 2))))
        self.assertIs(is_claim(claim), False)
        self.assertEqual(paper_against(claim), paper_against(("quiet", bus, crowd, (1, 2))))


if __name__ == "__main__":
    unittest.main()
