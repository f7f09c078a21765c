"""Rows of RESIDUES packed in numbers, four bits for each RESIDUE, and spaces of them.

A space is the tuple of packs that is its basis: the lead of a pack is its RESIDUE other than 0
that stands highest; it is 1, is 0 in all other packs, and leads descend.
"""

from anydlooks.residues import inverse


class Packs:
    """What is reckoned with packs of so many RESIDUES."""

    def __init__(self, prime, length):
        self.prime = prime
        # With these added the highest of four bits tells that a RESIDUE is not below the prime.
        self.more = 0
        self.tops = 0
        for _ in range(length):
            self.more = self.more << 4 | 8 - prime
            self.tops = self.tops << 4 | 8

    def plus(self, one, other):
        """The sum of two packs, place by place."""
        found = one + other
        return found - ((found + self.more & self.tops) >> 3) * self.prime

    def times(self, factor, pack):
        """The pack times a RESIDUE."""
        found = 0
        for _ in range(factor):
            found = self.plus(found, pack)
        return found

    def less(self, one, other):
        """One pack less the other one, place by place."""
        return self.plus(one, self.times(self.prime - 1, other))

    def led(self, pack):
        """The multiple of the pack, 0 or not, in which the lead is 1."""
        if not pack:
            return pack
        lead = pack >> (pack.bit_length() - 1 & -4)
        return pack if lead == 1 else self.times(inverse(self.prime, lead), pack)

    def rest(self, pack, space):
        """The pack less one of the space, 0 at all leads of it."""
        found = pack
        for own in space:
            residue = found >> own.bit_length() - 1 & 15
            if residue:
                found = self.plus(found, self.times(self.prime - residue, own))
        return found

    def wider(self, space, packs):
        """The space with packs taken into it."""
        found = space
        for pack in packs:
            rest = self.led(self.rest(pack, found))
            if rest:
                others = [self.rest(own, (rest,)) for own in found]
                found = tuple(sorted([*others, rest], reverse=True))
        return found
