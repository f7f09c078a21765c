"""Packed rows beside rows."""

import random
import unittest

from anydlooks.packs import Packs
from anydlooks.residues import basis, is_within, rest_of

LENGTH = 7


def packed(row):
    return sum(residue << 4 * place for place, residue in enumerate(row))


def row_of(pack):
    return tuple(pack >> 4 * place & 15 for place in range(LENGTH))


def turned(rows):
    """Leads of packs stand highest, those of rows lowest."""
    return [row[::-1] for row in rows]


class PackedRows(unittest.TestCase):

    def test_beside_rows(self):
        rng = random.Random(1)
        for prime in (2, 3, 5):
            packs = Packs(prime, LENGTH)
            for _ in range(300):
                one, other = [tuple(rng.randrange(prime) for _ in range(LENGTH)) for _ in range(2)]
                sums = tuple((own + more) % prime for own, more in zip(one, other))
                self.assertEqual(row_of(packs.plus(packed(one), packed(other))), sums)
                self.assertEqual(row_of(packs.less(packed(sums), packed(other))), one)
                for factor in range(prime):
                    told = tuple(own * factor % prime for own in one)
                    self.assertEqual(row_of(packs.times(factor, packed(one))), told)
                led = row_of(packs.led(packed(one)))
                self.assertEqual([own for own in led if own][-1:], [1] if any(one) else [])
                self.assertTrue(is_within(prime, (led,), (one,)))

    def test_spaces(self):
        rng = random.Random(2)
        for prime in (2, 3, 5):
            packs = Packs(prime, LENGTH)
            for _ in range(200):
                rows = [tuple(rng.randrange(prime) * (rng.random() < 0.6) for _ in range(LENGTH))
                        for _ in range(rng.randint(1, 6))]
                half = rng.randint(0, len(rows))
                space = packs.wider(packs.wider((), [packed(row) for row in rows[:half]]), [packed(row) for row in rows[half:]])
                self.assertEqual(tuple(turned(row_of(own) for own in space)), basis(prime, turned(rows)))
                row = tuple(rng.randrange(prime) for _ in range(LENGTH))
                self.assertEqual(row_of(packs.rest(packed(row), space))[::-1], rest_of(prime, row[::-1], turned(rows)))


if __name__ == "__main__":
    unittest.main()
