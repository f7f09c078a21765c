"""What is best over all RUNS of a block, behind which something is asked."""

from anydlooks.blocks import MANY, Pieces
from anydlooks.grids import bits_of
from anydlooks.joint import Joint
from anydlooks.moves import full_view
from anydlooks.rule import bad_form, quiet_asking
from anydlooks.search import Search
from anydlooks.wide import Wide, is_wide


class Bests:
    """The least keys of all blocks, of one kind, with marks that a view lets."""

    def __init__(self, program, view, most, kind, by_turns):
        self.program = program
        self.most = most
        self.kind = kind
        self.by_turns = by_turns
        self.pieces = Pieces(program[0], view, most, kind, by_turns)
        self.grids = self.pieces.least(program[2])
        self.rows = {}

    def row(self, number, behind):
        """The ascending list of the triples (key, spent, ASKING ahead) of a block."""
        if (number, behind) not in self.rows:
            askings, found = self.pieces.places.askings, []
            for key, mask in self.grids[number][self.pieces.places.place_of[behind]]:
                for bit in bits_of(mask):
                    found.append((key, bit // len(askings), askings[bit % len(askings)]))
            self.rows[(number, behind)] = found
        return self.rows[(number, behind)]

    def told(self):
        """A dict that tells by FORM the least key of a TELLING of it."""
        found, quiet = {}, quiet_asking(self.program[0])
        for key, _, asking in self.row(0, quiet):
            form = bad_form(self.program[1], asking)
            if form is not None:
                found[form] = min(key, found.get(form, key))
        return {form: found[form] for form in sorted(found)}

    def only_best(self, place, front):
        """What is best in a front ahead of a block, place being (block, what is asked behind it)."""
        least = {}
        for key, spent, asking in self.row(place[0], place[1]):
            least.setdefault(asking, []).append((key, spent))
        found = {}
        for (asking, spent), best in front.items():
            keys = [key for key, less in least.get(asking, []) if less <= spent]
            if keys and self._number(best[0]) == min(keys):
                found[(asking, spent)] = best
        return found

    def _number(self, key):
        """The key in the grids for one of a front."""
        unit, line, choice, _ = self.kind
        return key[0] * unit + key[1] * line + key[2] * choice

    def best(self, number, behind, wanted):
        """The best one of a Search that asks one of wanted, a dict, ahead of the block; None without.

        Of those of the least key it is the one with the least run.
        """
        keys = [key for key, _, asking in self.row(number, behind) if asking in wanted]
        if not keys:
            return None
        rest = keys[0] % (MANY * MANY)
        mode = "turns" if self.by_turns else "run" if self.kind[3] else "cheap"
        most = self.most if self.kind[3] else keys[0] // (MANY * MANY)
        limits = (rest // MANY, rest % MANY)
        front = Search(self.program, number, self.pieces.moves, mode, most, limits, self).through(behind)
        found = [own for (asking, _), own in front.items() if asking in wanted]
        return min(found, key=lambda own: own[0])

    def best_told(self, form):
        """The best one that tells this FORM, or any if it is None; None if there is none."""
        quiet, wanted = quiet_asking(self.program[0]), {}
        for _, _, asking in self.row(0, quiet):
            own = bad_form(self.program[1], asking)
            if own is not None and form in (None, own):
                wanted[asking] = True
        return self.best(0, quiet, wanted)


def _bad_states(program, digits):
    """The list of the pairs (state, FORM) of the bad ASKINGS."""
    found = [(state, bad_form(program[1], digits.digits(state))) for state in range(digits.size)]
    return [own for own in found if own[1] is not None]


def told_prices(program, view, most):
    """A dict that tells by FORM the least price of a TELLING of it; of price most at most, if it is not None."""
    joint, found = Joint(program, view, 1, most), {}
    bad = _bad_states(program, joint.digits)
    for price, mask in joint.all_ahead(0, 0):
        for state, form in bad:
            if mask >> state & 1:
                found[form] = min(price, found.get(form, price))
    return {form: found[form] for form in sorted(found)}


def cheapest_found(program, view, most, form):
    """A Joint, and the pair (price, state) by which it tells this FORM, or any if it is None, first; None without."""
    joint, wanted = Joint(program, view, 1, most), 0
    for state, own in _bad_states(program, joint.digits):
        if form in (None, own):
            wanted |= 1 << state
    return joint, joint.first(wanted)


def least_told_price(program, view, most):
    """The least price of a TELLING; None if there is none, of price most at most, if it is not None."""
    if is_wide(program):
        return Wide(program, view, most).price()
    first = cheapest_found(program, view, most, None)[1]
    return None if first is None else first[0]


def nothing_told(program, most):
    """Whether for all RUNS no LOOKS of a price of at most most tell."""
    return least_told_price(program, full_view(program[0]), most) is None
