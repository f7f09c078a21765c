"""TABLES as grids: for each ASKING behind, by its place, a list of masks.

The mask at price c has a bit for the place of each ASKING ahead whose price is at most c.
"""

from anydlooks.plain import all_rows
from anydlooks.rule import ahead_of, asking_length, line_choices
from anydlooks.ways import line_of_item


class Places:
    """ASKINGS, ascending, and the place of each among them."""

    def __init__(self, askings):
        self.askings = askings
        self.place_of = {asking: place for place, asking in enumerate(askings)}

    def grid(self, table, most):
        """The grid of a TABLE, what is above most left out."""
        result = self.empty_grid(most)
        for ahead, behind, price in table:
            _add(result[self.place_of[behind]], 1 << self.place_of[ahead], price)
        return result

    def empty_grid(self, most):
        """The grid of the TABLE without ENTRIES."""
        return [[0] * (most + 1) for _ in self.askings]

    def still_grid(self, most):
        """The grid of the TABLE of the WAY ()."""
        return [[1 << place] * (most + 1) for place in range(len(self.askings))]

    def table(self, grid):
        """The TABLE of a grid."""
        found = []
        for behind, masks in zip(self.askings, grid):
            known = 0
            for price, mask in enumerate(masks):
                found.extend([(self.askings[place], behind, price) for place in bits_of(mask & ~known)])
                known = mask
        return tuple(sorted(found))


def places_of(machine):
    """The Places of all ASKINGS of the machine."""
    return Places(all_rows(machine[0], asking_length(machine)))


def bits_of(mask):
    """The places of the bits of a mask, ascending."""
    found, rest = [], mask
    while rest:
        low = rest & -rest
        found.append(low.bit_length() - 1)
        rest ^= low
    return found


def _add(masks, mask, price):
    """Adds what is asked at this price to the masks of one ASKING behind."""
    for own in range(price, len(masks)):
        masks[own] |= mask


def _add_all(masks, more, price):
    """Adds the masks more, each at a price greater by price."""
    for own in range(price, len(masks)):
        masks[own] |= more[own - price]


def joined_grid(one, other):
    """The grid of a piece with the grid one and then one with other."""
    return [_joined_masks(one, own) for own in other]


def _joined_masks(one, own):
    result = [0] * len(own)
    known = 0
    for price, mask in enumerate(own):
        for place in bits_of(mask & ~known):
            _add_all(result, one[place], price)
        known = mask
    return result


def least_grid(grids):
    """The grid of what any of the grids has, at the least price."""
    result = grids[0]
    for grid in grids[1:]:
        result = [_least_masks(masks, more) for masks, more in zip(result, grid)]
    return result


def _least_masks(masks, more):
    return [own | other for own, other in zip(masks, more)]


def many_grid(still, grid):
    """The grid of none, one or more pieces with this grid."""
    result = least_grid([still, grid])
    while True:
        twice = joined_grid(result, result)
        if twice == result:
            return result
        result = twice


def times_grid(still, grid, many):
    """The grid of just so many pieces with this grid."""
    result, twice, rest = still, grid, many
    while rest:
        if rest & 1:
            result = joined_grid(result, twice)
        rest >>= 1
        if rest:
            twice = joined_grid(twice, twice)
    return result


def line_grid(machine, places, line, most):
    """The grid of a LINE that is no put back."""
    result = places.empty_grid(most)
    choices = [own for own in line_choices(machine, line, 0) if own[1] <= most]
    for place, behind in enumerate(places.askings):
        for seen, price, _ in choices:
            ahead, wanted = ahead_of(machine, line, behind, seen)
            if line[0] != "draw" or not wanted:
                _add(result[place], 1 << places.place_of[ahead], price)
    return result


def call_grid(machine, places, kept, grid, most):
    """The grid of a call, kept registers being put back, of a block with this grid."""
    result = grid
    for slot in kept:
        result = _with_back(machine, places, slot, result, most)
    return result


def _with_back(machine, places, slot, grid, most):
    """The grid with one more put back behind it."""
    result = places.empty_grid(most)
    line, moved = ("back", slot, 0), {}
    choices = [own for own in line_choices(machine, line, 0) if own[1] <= most]
    for place, behind in enumerate(places.askings):
        for seen, price, _ in choices:
            ahead, wanted = ahead_of(machine, line, behind, seen)
            key = (places.place_of[ahead], wanted)
            if key not in moved:
                moved[key] = [_moved(machine, places, mask, slot, wanted) for mask in grid[key[0]]]
            _add_all(result[place], moved[key], price)
    return result


def _moved(machine, places, mask, slot, wanted):
    """The mask of the same ASKINGS with wanted added at a register."""
    if not wanted:
        return mask
    result = 0
    for place in bits_of(mask):
        asking = list(places.askings[place])
        asking[slot] = (asking[slot] + wanted) % machine[0]
        result |= 1 << places.place_of[tuple(asking)]
    return result


def way_grid(machine, places, way, grids, most):
    """The grid of a WAY, grids having one for each block."""
    result = places.still_grid(most)
    for item in way:
        result = joined_grid(result, _item_grid(machine, places, item, grids, most))
    return result


def _item_grid(machine, places, item, grids, most):
    if item[0] == "one":
        return least_grid([way_grid(machine, places, way, grids, most) for way in item[1]])
    if item[0] == "many":
        return many_grid(places.still_grid(most), way_grid(machine, places, item[1], grids, most))
    if item[0] == "call":
        return call_grid(machine, places, item[2], grids[item[1]], most)
    return line_grid(machine, places, line_of_item(item), most)
