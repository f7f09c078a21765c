"""Best ways through pieces, as grids: a row for each ASKING behind, by its place.

A row is the ascending tuple of the pairs (key, mask). Keys are numbers, added up over pieces
one behind the other; the mask has a bit for each ASKING ahead for which this key is the least.
In layers there is such a bit for each price that may have been spent, too: for as many prices
as there are layers, bit spent * size + place. What is no better than with less spent is left
out. No key is too great for a grid, but what is above cap, if that is not None, is left out.
"""


def bits_of(mask):
    """The places of the bits of a mask, ascending."""
    found, rest = [], mask
    while rest:
        low = rest & -rest
        found.append(low.bit_length() - 1)
        rest ^= low
    return found


def add_to(sums, key, mask):
    """Adds a mask to those in a dict of masks by keys."""
    sums[key] = sums.get(key, 0) | mask


def mask_to(row, most):
    """The mask of all that a row has with keys of at most most, or at all."""
    result = 0
    for key, mask in row:
        if most is None or key <= most:
            result |= mask
    return result


class Grids:
    """How grids over so many ASKINGS and layers are put together."""

    def __init__(self, size, layers, cap):
        self.size = size
        self.layers = layers
        self.cap = cap
        self.full = (1 << size * layers) - 1

    def empty(self):
        """The grid of what cannot be gone through."""
        return [()] * self.size

    def still(self):
        """The grid of a piece without lines."""
        return [((0, 1 << place),) for place in range(self.size)]

    def row_of(self, sums):
        """The row of a dict of masks by keys."""
        found, known = [], 0
        for key in sorted(sums):
            if self.cap is not None and key > self.cap:
                break
            mask = sums[key] & self.full & ~known
            more = self._with_more_spent(mask)
            mask &= ~(more << self.size)
            if mask:
                found.append((key, mask))
                known |= more
        return tuple(found)

    def _with_more_spent(self, mask):
        result = mask
        for layer in range(1, self.layers):
            result |= mask << layer * self.size
        return result & self.full

    def joined(self, one, other):
        """The grid of a piece with the grid one and then one with other."""
        return [self.joined_row(one, row) for row in other]

    def joined_row(self, one, row):
        """The row of a piece with the grid one and then one with this row."""
        sums = {}
        for key, mask in row:
            for bit in bits_of(mask):
                shift = bit // self.size * self.size
                for more, ahead in one[bit - shift]:
                    add_to(sums, key + more, ahead << shift)
        return self.row_of(sums)

    def least(self, grids):
        """The grid of what any of the grids has, with the least key."""
        result = grids[0]
        for grid in grids[1:]:
            result = [self._least_row(row, more) for row, more in zip(result, grid)]
        return result

    def _least_row(self, row, more):
        if row == more:
            return row
        sums = {}
        for key, mask in row + more:
            add_to(sums, key, mask)
        return self.row_of(sums)

    def many(self, grid):
        """The grid of none, one or more pieces with this grid."""
        result = self.least([self.still(), grid])
        while True:
            twice = self.joined(result, result)
            if twice == result:
                return result
            result = twice

    def times(self, grid, many):
        """The grid of just so many pieces with this grid."""
        result, twice, rest = self.still(), grid, many
        while rest:
            if rest & 1:
                result = self.joined(result, twice)
            rest >>= 1
            if rest:
                twice = self.joined(twice, twice)
        return result

    def longer(self, grid, more):
        """The grid of what is made of the pieces by something that adds more to all keys."""
        return [tuple([(key + more, mask) for key, mask in row]) for row in grid]

    def flat(self, grid):
        """The grid in which nothing is spent, and without layers no key is above 0."""
        found = []
        for row in grid:
            sums = {}
            for key, mask in row:
                for layer in range(self.layers):
                    low = mask >> layer * self.size & (1 << self.size) - 1
                    add_to(sums, key if self.layers > 1 else 0, low)
            found.append(self.row_of(sums))
        return found
