"""The grids of LINES, items, WAYS and blocks, by what is best in them.

A kind says what is best: a tuple (price, line, choice, layered) of what is added to a key for
each unit of price, each LINE and each number chosen, and of whether what is spent is kept
beside the key, in layers.
"""

from anydlooks.grids import Grids, add_to, bits_of, mask_to
from anydlooks.moves import Moves
from anydlooks.plain import all_rows, as_set
from anydlooks.rule import asking_length
from anydlooks.ways import calls_in, line_of_item

# More than LINES and numbers of any run can be that is the least of its kind.
MANY = 1000000000000000000000000000000

# The least price alone; the fewest LINES, then numbers, for each price; the least price, then these.
BY_PRICE = (1, 0, 0, False)
BY_LINES = (0, 1000000000000000000000000000000, 1, True)
BY_ALL = (1000000000000000000000000000000000000000000000000000000000000, 1000000000000000000000000000000, 1, False)


class Places:
    """ASKINGS, ascending, and the place of each among them."""

    def __init__(self, askings):
        self.askings = askings
        self.place_of = {asking: place for place, asking in enumerate(askings)}

    def grid(self, grids, table):
        """The grid of a TABLE."""
        sums = [{} for _ in self.askings]
        for ahead, behind, price in table:
            add_to(sums[self.place_of[behind]], price, 1 << self.place_of[ahead])
        return [grids.row_of(own) for own in sums]

    def table(self, grid):
        """The TABLE of a grid without layers."""
        found = []
        for behind, row in zip(self.askings, grid):
            for price, mask in row:
                found.extend([(self.askings[place], behind, price) for place in bits_of(mask)])
        return tuple(sorted(found))


def places_of(machine):
    """The Places of all ASKINGS of the machine."""
    return Places(all_rows(machine[0], asking_length(machine)))


class Pieces:
    """The grids of pieces, with marks that a view lets, of price most at most, if it is not None.

    By turns a block called, and each time round of a "many", is one of its own: what the marks
    of other turns cost does not count, so the grids of blocks have to be flat ones.
    """

    def __init__(self, machine, view, most, kind, by_turns):
        self.places = places_of(machine)
        self.moves = Moves(machine, view, 1)
        self.unit, self.line_size, self.choice, self.layered = kind
        layers = most + 1 if self.layered else 1
        cap = None if self.layered or most is None else (most + 1) * self.unit - 1
        self.grids = Grids(len(self.places.askings), layers, cap)
        self.by_turns = by_turns
        self.lines = {}
        self.shifts = {}

    def _look(self, sums, key, mask, price):
        """Adds what is asked ahead of one LINE at which this price is paid."""
        if self.layered:
            add_to(sums, key + self.line_size, mask << price * self.grids.size)
        else:
            add_to(sums, key + self.line_size + price * self.unit, mask)

    def line(self, line):
        """The grid of a LINE that is no put back."""
        if line not in self.lines:
            own, found = self.moves.of_line(line), []
            for behind in self.places.askings:
                sums = {}
                for ahead, _, price, _ in own.ahead(behind):
                    self._look(sums, 0, 1 << self.places.place_of[ahead], price)
                found.append(self.grids.row_of(sums))
            self.lines[line] = found
        return self.lines[line]

    def call(self, kept, grid):
        """The grid of a call, kept registers being put back, of a block with this grid."""
        result = grid
        for slot in kept:
            result = self._with_back(slot, result)
        return result

    def _with_back(self, slot, grid):
        """The grid with one more put back behind it."""
        result, moved = [], {}
        own = self.moves.of_line(("back", slot, 0))
        for behind in self.places.askings:
            sums = {}
            for ahead, wanted, price, _ in own.ahead(behind):
                place = (self.places.place_of[ahead], wanted)
                if place not in moved:
                    moved[place] = [(key, self._moved(mask, slot, wanted)) for key, mask in grid[place[0]]]
                for key, mask in moved[place]:
                    self._look(sums, key, mask, price)
            result.append(self.grids.row_of(sums))
        return result

    def _moved(self, mask, slot, wanted):
        """The mask of the same ASKINGS with what a put back asks added at a register."""
        own, size, result = (slot, wanted), self.grids.size, 0
        if own not in self.shifts:
            askings = [self.moves.with_put_backs(asking, [own]) for asking in self.places.askings]
            self.shifts[own] = [self.places.place_of[asking] for asking in askings]
        for bit in bits_of(mask):
            result |= 1 << (bit - bit % size + self.shifts[own][bit % size])
        return result

    def way(self, way, grids):
        """The grid of a WAY, grids having one for each block."""
        result = self.grids.still()
        for item in way:
            result = self.grids.joined(result, self.item(item, grids))
        return result

    def item(self, item, grids):
        """The grid of an item, likewise."""
        if item[0] == "one":
            return self.grids.longer(self.grids.least([self.way(way, grids) for way in item[1]]), self.choice)
        if item[0] == "many":
            inner = self.way(item[1], grids)
            inner = self.grids.flat(inner) if self.by_turns else inner
            return self.grids.longer(self.grids.many(inner), self.choice)
        if item[0] == "times":
            return self.grids.longer(self.grids.times(self.way(item[1], grids), item[2]), self.choice)
        if item[0] == "call":
            return self.call(item[2], grids[item[1]])
        return self.line(line_of_item(item))

    def _block(self, way, grids):
        """What the rule makes of the grids for a block with this WAY."""
        found = self.way(way, grids)
        return self.grids.flat(found) if self.by_turns else found

    def made(self, blocks, grids):
        """What the rule makes of the grids, one for each block."""
        return [self._block(way, grids) for way in blocks]

    def gone_over(self, blocks, many):
        """Grids of nothing, gone over many times, or until nothing is new, if many is None.

        Returned is the pair of them and of how many times it took. What is made of the same
        grids of the blocks called is the same again.
        """
        callees = [as_set(calls_in(way)) for way in blocks]
        grids, times, new = [self.grids.empty() for _ in blocks], 0, None
        while many is None or times < many:
            more = list(grids)
            for number, way in enumerate(blocks):
                if new is None or any([new[callee] for callee in callees[number]]):
                    more[number] = self._block(way, grids)
            new = [one != other for one, other in zip(grids, more)]
            if not any(new):
                break
            grids, times = more, times + 1
        return grids, times

    def least(self, blocks):
        """The least closed grids of the blocks."""
        return self.gone_over(blocks, None)[0]

    def are_closed(self, blocks, grids):
        """Whether the rule makes nothing of the grids that is not there with no greater key."""
        for grid, made in zip(grids, self.made(blocks, grids)):
            for row, more in zip(grid, made):
                if any([mask & ~mask_to(row, key) for key, mask in more]):
                    return False
        return True
