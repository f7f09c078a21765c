"""[4]: residues, beside all factors and all rows."""

import unittest

from anydlooks import residues
from anydlooks.errors import TooMany, Unfit
from anydlooks.residues import (
    across, basis, common, factors_for, inverse, is_row, is_within, members, product, rank, refusal, relations,
    rest_of, row_by, solution,
)
from reckon import nest, rng_of, rows_of, things_like


def summed(prime, rows, factors, length):
    return tuple(sum(own * row[place] for own, row in zip(factors, rows)) % prime for place in range(length))


def space(prime, rows, length):
    return {summed(prime, rows, own, length) for own in rows_of(prime, len(rows))}


def dot(prime, row, other):
    return sum(own * more for own, more in zip(row, other)) % prime


def samples(seed, many, most_rows=4, most_length=4):
    rng = rng_of(seed)
    for _ in range(many):
        prime = rng.choice((2, 3, 5))
        length = rng.randint(0, most_length if prime < 5 else 3)
        count = rng.randint(0, most_rows if prime < 5 else 3)
        rows = [tuple(rng.randrange(prime) for _ in range(length)) for _ in range(count)]
        if rows and rng.random() < 0.4:
            # Rows alike, multiples of one another, and 0s alone.
            times = rng.randrange(prime)
            rows[-1] = tuple(own * times % prime for own in rows[0])
        yield rng, prime, length, tuple(rows)


class Residues(unittest.TestCase):

    def is_basis(self, prime, rows, length, wanted):
        """Whether rows are the one basis of the space whose rows are wanted."""
        self.assertIsInstance(rows, tuple)
        leads = []
        for row in rows:
            self.assertIsInstance(row, tuple)
            lead = [place for place in range(length) if row[place]][0]
            self.assertEqual(row[lead], 1)
            self.assertEqual(sum(own[lead] != 0 for own in rows), 1)
            leads.append(lead)
        self.assertEqual(leads, sorted(set(leads)))
        self.assertEqual(space(prime, rows, length) | {(0,) * length}, wanted)

    def test_inverse(self):
        for prime in (2, 3, 5):
            for residue in range(1, prime):
                self.assertEqual([own for own in range(prime) if own * residue % prime == 1], [inverse(prime, residue)])
            with self.assertRaises(Unfit) as caught:
                inverse(prime, 0)
            self.assertEqual(vars(caught.exception), {})

    def test_spaces(self):
        for rng, prime, length, rows in samples(1, 300):
            wanted = space(prime, rows, length) | {(0,) * length}
            self.is_basis(prime, basis(prime, rows), length, wanted)
            many = rank(prime, rows)
            self.assertEqual(prime ** many, len(wanted))
            self.assertEqual(members(prime, rows, length), tuple(sorted(wanted)))
            row = tuple(rng.randrange(prime) for _ in range(length))
            rest = rest_of(prime, row, rows)
            self.assertIn(tuple((a - b) % prime for a, b in zip(row, rest)), wanted)
            for own in basis(prime, rows):
                self.assertEqual(rest[own.index(1)], 0)
            self.assertEqual(basis(prime, basis(prime, rows)), basis(prime, rows))

    def test_factors_and_relations(self):
        for rng, prime, length, rows in samples(2, 300):
            row = tuple(rng.randrange(prime) for _ in range(length))
            every = rows_of(prime, len(rows))
            self.assertEqual(factors_for(prime, row, rows), min(
                [own for own in every if summed(prime, rows, own, length) == row], default=None))
            silent = {own for own in every if not any(summed(prime, rows, own, length))}
            self.is_basis(prime, relations(prime, rows), len(rows), silent)
            self.assertEqual(rank(prime, rows) + rank(prime, relations(prime, rows)), len(rows))
            some = rng.choice(every)
            self.assertEqual(row_by(prime, rows, some, length), summed(prime, rows, some, length))
            if rows:
                self.assertEqual(product(prime, rows[0], row), dot(prime, rows[0], row))

    def test_across_and_solutions(self):
        for rng, prime, length, rows in samples(3, 300):
            every = rows_of(prime, length)
            silent = {own for own in every if not any(dot(prime, own, row) for row in rows)}
            self.is_basis(prime, across(prime, rows, length), length, silent)
            self.assertEqual(rank(prime, rows) + rank(prime, across(prime, rows, length)), length)
            self.assertEqual(across(prime, across(prime, rows, length), length), basis(prime, rows))
            goals = tuple(rng.randrange(prime) for _ in rows)
            found = solution(prime, rows, goals, length)
            self.assertEqual(found, min([own for own in every if all(
                dot(prime, own, row) == goal for row, goal in zip(rows, goals))], default=None))
            none = refusal(prime, rows, goals)
            self.assertEqual(none, min([own for own in rows_of(prime, len(rows)) if dot(prime, own, goals) == 1
                                        and not any(summed(prime, rows, own, length))], default=None))
            self.assertNotEqual(found is None, none is None)

    def test_two_spaces(self):
        for rng, prime, length, rows in samples(4, 300):
            others = tuple(tuple(rng.randrange(prime) for _ in range(length)) for _ in range(rng.randint(0, 3)))
            first = space(prime, rows, length) | {(0,) * length}
            second = space(prime, others, length) | {(0,) * length}
            self.is_basis(prime, common(prime, rows, others), length, first & second)
            self.assertEqual(is_within(prime, rows, others), first <= second)
            self.assertEqual(rank(prime, rows) + rank(prime, others),
                             rank(prime, rows + others) + rank(prime, common(prime, rows, others)))

    def test_edges(self):
        self.assertEqual((basis(2, ()), rank(3, ()), relations(5, ()), across(3, (), 2)), ((), 0, (), ((1, 0), (0, 1))))
        self.assertEqual((basis(2, ((), ())), relations(2, ((), ()))), ((), ((1, 0), (0, 1))))
        self.assertEqual((row_by(2, (), (), 3), members(3, (), 2), members(3, ((),), 0)), ((0, 0, 0), ((0, 0),), ((),)))
        self.assertEqual((factors_for(2, (0, 0), ()), factors_for(2, (0, 1), ()), factors_for(2, (), ((),))), ((), None, (0,)))
        self.assertEqual((solution(5, (), (), 2), solution(5, (), (), 0), solution(5, ((),), (1,), 0)), ((0, 0), (), None))
        self.assertEqual((refusal(5, (), ()), refusal(5, ((), ()), (0, 3)), refusal(5, ((0,),), (0,))), (None, (0, 2), None))
        self.assertEqual((is_within(2, (), ()), is_within(2, ((0,),), ()), is_within(2, ((1,),), ())), (True, True, False))
        self.assertEqual((common(2, (), ()), common(2, ((1, 0),), ()), rest_of(3, (2, 1), ())), ((), (), (2, 1)))
        self.assertEqual((across(2, ((),), 0), product(3, (), ())), ((), 0))

    def test_members_limit(self):
        twelve = tuple(tuple(int(k == place) for place in range(13)) for k in range(12))
        self.assertEqual(len(members(2, twelve, 13)), 4096)
        with self.assertRaises(TooMany):
            members(2, twelve + ((0,) * 12 + (1,),), 13)
        self.assertEqual(len(members(5, twelve[:5], 13)), 3125)
        with self.assertRaises(TooMany):
            members(5, twelve[:6], 13)
        with self.assertRaises(TooMany):
            members(3, twelve[:8], 13)

    def test_bounds(self):
        rng = rng_of(5)
        for prime in (2, 3, 5):
            rows = tuple(tuple(rng.randrange(prime) for _ in range(40)) for _ in range(40))
            many = rank(prime, rows)
            self.assertEqual(len(relations(prime, rows)), 40 - many)
            self.assertEqual(len(across(prime, rows, 40)), 40 - many)
            factors = tuple(rng.randrange(prime) for _ in range(40))
            row = row_by(prime, rows, factors, 40)
            found = factors_for(prime, row, rows)
            self.assertLessEqual(found, factors)
            self.assertEqual(row_by(prime, rows, found, 40), row)
            self.assertEqual(across(prime, across(prime, rows, 40), 40), basis(prime, rows))

    def test_things(self):
        for prime in (2, 3, 5):
            for thing in things_like((1, 0, 1)) + [(prime,) * 3, (prime - 1,) * 3, nest(30), ((1,), 0, 1)]:
                for length in (0, 1, 3, 4):
                    wanted = type(thing) is tuple and len(thing) == length and all(
                        type(own) is int and 0 <= own < prime for own in thing)
                    self.assertIs(is_row(thing, prime, length), wanted, (thing, prime, length))
        self.assertTrue(is_row((1,) * 100000, 2, 100000))

    def test_lists_and_names(self):
        three = ((1, 2, 0), (2, 1, 0), (0, 1, 1))
        lists = [list(row) for row in three]
        calls = {
            "row_by": dict(rows=three, factors=(1, 2, 1), length=3), "product": dict(row=three[0], other=three[1]),
            "basis": dict(rows=three), "rank": dict(rows=three), "rest_of": dict(row=(1, 1, 1), rows=three),
            "is_within": dict(rows=three[:1], others=three), "members": dict(rows=three, length=3),
            "factors_for": dict(row=(1, 0, 1), rows=three), "relations": dict(rows=three),
            "across": dict(rows=three, length=3), "common": dict(rows=three[:2], others=three[1:]),
            "solution": dict(rows=three, goals=(1, 2, 0), length=3), "refusal": dict(rows=three, goals=(1, 0, 0)),
        }
        for word, more in calls.items():
            function = getattr(residues, word)
            wanted = function(3, *more.values())
            self.assertEqual(function(prime=3, **more), wanted)
            again = {key: listed(own) for key, own in more.items()}
            self.assertEqual(repr(function(prime=3, **again)), repr(wanted), word)
            self.assertEqual(again, {key: listed(own) for key, own in more.items()})
        self.assertEqual(lists, [[1, 2, 0], [2, 1, 0], [0, 1, 1]])


def listed(value):
    return [listed(own) for own in value] if isinstance(value, tuple) else value


if __name__ == "__main__":
    unittest.main()
