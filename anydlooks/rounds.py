"""How least prices go on with the number of rounds, for all numbers.

A row has for each ASKING a price, or None. The rows of a program are what is paid for ASKINGS
ahead of so many rounds and of what lies behind them. A paper is a pair (rows, slopes) that
tells all of them: behind its rows each row is the one a period ahead, and a slope.
"""

from anydlooks.blocks import BY_PRICE, Pieces
from anydlooks.grids import bits_of
from anydlooks.moves import full_view
from anydlooks.rule import bad_form

_MOST_ROWS = 600
_WINDOWS = (48, 192, 768, 1840, 3000)


def _values(places, row):
    """The row of prices of a row of masks."""
    values = [None] * len(places.askings)
    for price, mask in row:
        for place in bits_of(mask):
            values[place] = price
    return tuple(values)


def _least(values):
    return min([own for own in values if own is not None], default=None)


class Rounds:
    """The rounds of a "many" of block 0, at this place."""

    def __init__(self, program, place):
        pieces = Pieces(program[0], full_view(program[0]), None, BY_PRICE, False)
        grids = pieces.least(program[2])
        way, self.many = program[2][0], len(pieces.places.askings)
        self.first = _values(pieces.places, pieces.way(way[place + 1:], grids)[0])
        # For each ASKING ahead of a round the list of the pairs (place behind it, price).
        self.sources = [[] for _ in range(self.many)]
        for behind, row in enumerate(pieces.way(way[place][1], grids)):
            for price, mask in row:
                for ahead in bits_of(mask):
                    self.sources[ahead].append((behind, price))
        bad = sum([1 << own for own, asking in enumerate(pieces.places.askings)
                   if bad_form(program[1], asking) is not None])
        # What it costs from the beginning on if an ASKING is asked ahead of the rounds.
        self.ahead = [_least([own for own, askings in row if askings & bad])
                      for row in pieces.way(way[:place], grids)]
        self.rows = [self.first]

    def next_row(self, row):
        """The row with one more round."""
        found = []
        for sources in self.sources:
            found.append(min([row[own] + price for own, price in sources if row[own] is not None], default=None))
        return tuple(found)

    def row_at(self, number):
        """The row of a number of rounds that is not too great to be counted up to."""
        while len(self.rows) <= number:
            self.rows.append(self.next_row(self.rows[-1]))
        return self.rows[number]

    def price(self, row):
        """The least price at which anything tells, if a row tells what is paid behind."""
        return _least([own + more for own, more in zip(self.ahead, row) if own is not None and more is not None])

    def is_right(self, rows, slopes):
        """Whether a pair (rows, slopes) is a right paper."""
        if rows[0] != self.first:
            return False
        if any([self.next_row(rows[number]) != rows[number + 1] for number in range(len(rows) - 1)]):
            return False
        last = rows[len(rows) - len(slopes):]
        for row, slope in zip(last, slopes):
            if any([own is None and more != 0 for own, more in zip(row, slope)]):
                return False
        ahead = [*last[1:], _with_slope(last[0], slopes[0])]
        turned = [*slopes[1:], slopes[0]]
        return all([self._goes_on(*four) for four in zip(last, slopes, ahead, turned)])

    def _goes_on(self, row, slope, ahead, rise):
        """Whether row, and any number of times slope, leads to ahead, and as many times rise.

        The least of sums that rise evenly rises evenly, too, just if one that is the least at
        first rises least.
        """
        for place, sources in enumerate(self.sources):
            sums = [(row[own] + price, slope[own]) for own, price in sources if row[own] is not None]
            if not sums:
                if ahead[place] is not None:
                    return False
            elif (ahead[place], rise[place]) not in sums or ahead[place] > _least([own for own, _ in sums]):
                return False
            elif rise[place] > _least([more for _, more in sums]):
                return False
        return True

    def paper(self):
        """The right paper with the fewest rows; None if it has more than 600.

        Where rows go on evenly by two periods for twice both of them, they do by their common
        divisor, too. So if the shortest period that is likely in a window is not right, then
        none of at most 600 is, if behind 600 rows the window has twice both periods.
        """
        for window in _WINDOWS:
            self.row_at(window - 1)
            found = self._likely_paper(window)
            if found is not None and self.is_right(found[0], found[1]):
                return found
            if found is not None and window >= 3 * _MOST_ROWS + 2 * len(found[1]):
                return None
        return None

    def _likely_paper(self, window):
        """The paper with the shortest period that tells the rows of a window."""
        tried = []
        for period in range(1, window // 4 + 1):
            # A multiple of a period goes on evenly from where that does.
            if any([period % own == 0 and start + 2 * period <= window for own, start in tried]):
                continue
            start = window - 2 * period
            while start and self._is_even(start - 1, period):
                start -= 1
            if start + 4 * period <= window and start + period <= _MOST_ROWS:
                many = start + period
                slopes = [_less(self.rows[number], self.rows[number - period]) for number in range(many, many + period)]
                return tuple(self.rows[:many]), tuple(slopes)
            tried.append((period, start))
        return None

    def _is_even(self, number, period):
        """Whether the rows at number and twice a period behind rise evenly."""
        rows = self.rows
        for low, middle, high in zip(rows[number], rows[number + period], rows[number + 2 * period]):
            if None in (low, middle, high):
                if (low, middle, high) != (None, None, None):
                    return False
            elif high - middle != middle - low:
                return False
        return True


def _with_slope(row, slope):
    return tuple([None if own is None else own + more for own, more in zip(row, slope)])


def _less(row, other):
    """How much higher row is than other."""
    return tuple([0 if own is None else own - more for own, more in zip(row, other)])


def row_by_paper(paper, number):
    """The row of a number of rounds, however many."""
    rows, slopes = paper
    if number < len(rows):
        return rows[number]
    times, rest = divmod(number - len(rows), len(slopes))
    start = rows[len(rows) - len(slopes) + rest]
    return tuple([None if own is None else own + more * (times + 1) for own, more in zip(start, slopes[rest])])
