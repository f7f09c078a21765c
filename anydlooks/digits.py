"""States of some tracks [moves.py] as numbers, and sets of them as masks."""

from anydlooks.grids import bits_of
from anydlooks.plain import all_rows, power
from anydlooks.residues import product, rank


class Digits:
    """So many tracks of rows of this length, one behind the other, read as the digits of a number."""

    def __init__(self, prime, length, tracks):
        self.prime = prime
        self.length = length
        self.tracks = tracks
        self.size = power(prime, length * tracks)
        self.worths = [power(prime, length * tracks - 1 - place) for place in range(length * tracks)]
        # For each place and digit the mask of the numbers that have at most this digit there.
        self.low = [self._low_masks(worth) for worth in self.worths]
        self.factors = []
        self.mixed = None
        self.known = {}

    def _low_masks(self, worth):
        found, mask = [], 0
        for digit in range(self.prime):
            block = (1 << worth) - 1 << digit * worth
            for start in range(0, self.size, worth * self.prime):
                mask |= block << start
            found.append(mask)
        return found

    def number(self, digits):
        """The number with these digits."""
        return sum([digit * worth for digit, worth in zip(digits, self.worths)])

    def digits(self, number):
        """The digits of a number."""
        return tuple([number // worth % self.prime for worth in self.worths])

    def rows(self, number):
        """The rows of the tracks."""
        digits = self.digits(number)
        return [digits[track * self.length:(track + 1) * self.length] for track in range(self.tracks)]

    def moved(self, mask, digits):
        """The mask of the states to which these digits are added."""
        for place, digit in enumerate(digits):
            if digit:
                low = self.low[place][self.prime - digit - 1]
                up, down = digit * self.worths[place], (self.prime - digit) * self.worths[place]
                mask = (mask & low) << up | (mask & ~low) >> down
        return mask

    def _mix(self, number, factors):
        """The state whose tracks are the sums of those of another one by rows of factors."""
        rows, digits = self.rows(number), []
        for own in factors:
            for column in zip(*rows):
                digits.append(sum([factor * digit for factor, digit in zip(own, column)]) % self.prime)
        return self.number(digits)

    def _all_mixed(self):
        """For each way to mix the tracks that can be undone, the list of what becomes of the states."""
        if self.mixed is None:
            choices = [()]
            for _ in range(self.tracks):
                choices = [(*own, row) for own in choices for row in all_rows(self.prime, self.tracks)]
            self.factors = [own for own in choices if rank(self.prime, own) == self.tracks]
            self.mixed = [[self._mix(number, own) for number in range(self.size)] for own in self.factors]
        return self.mixed

    def least_mixed(self, number):
        """The least state that can be mixed so that it becomes this one, and the number of the way to mix."""
        if number not in self.known:
            ways = self._all_mixed()
            least = min([way[number] for way in ways])
            self.known[number] = (least, [place for place, way in enumerate(ways) if way[least] == number][0])
        return self.known[number]

    def mixed_residues(self, residues, place):
        """What becomes by this way to mix of what the tracks have for one mark."""
        return tuple([product(self.prime, row, residues) for row in self.factors[place]])

    def mixed_mask(self, mask, place):
        """The mask of what becomes of the states by this way to mix."""
        way, result = self._all_mixed()[place], 0
        for number in bits_of(mask):
            result |= 1 << way[number]
        return result
