"""A Board: a program that is changed by deeds, and watches over what looks at it can tell."""

from anydlooks.bounds import is_bounded_program
from anydlooks.errors import CanNot, NoBlock, NoRegister, NothingDone, Unfit
from anydlooks.least import cheapest_telling, least_price
from anydlooks.moves import full_view
from anydlooks.plain import as_set, frozen, is_below
from anydlooks.prices import told_prices
from anydlooks.programs import is_clean
from anydlooks.residues import is_row
from anydlooks.runs import line_paths
from anydlooks.ways import calls_in, changed_way, found_item, program_with

_MOST = 6


def _broken(program, watches):
    """The set of the places of those watches that are not kept."""
    most = max([own[1] for own in watches], default=0)
    prices = told_prices(program, full_view(program[0]), most) if watches else {}
    found = []
    for place, (form, highest) in enumerate(watches):
        told = list(prices.values()) if form is None else [prices[own] for own in list(prices) if own == form]
        if any([price <= highest for price in told]):
            found.append(place)
    return tuple(found)


def _put(program, path, items):
    """The program with the items in the place of the one at path, whether it is let or not."""
    found_item(program, path)
    if not isinstance(items, tuple):
        raise Unfit()
    return program_with(program, path, items, 1)


class Board:
    """states are the pairs (program, watches) behind each deed, the first one that of the beginning."""

    def __init__(self, program):
        self.states = [(frozen(program), ())]
        self.later = []

    def __eq__(self, other):
        return isinstance(other, Board) and self.states[-1] == other.states[-1]

    def program(self):
        """The PROGRAM."""
        return self.states[-1][0]

    def watches(self):
        """The list of the watches."""
        return list(self.states[-1][1])

    def clean(self):
        """Whether the PROGRAM is clean."""
        return is_clean(self.program())

    def _done(self, program, watches):
        """A deed is done, by which these come."""
        self.states.append((program, watches))
        self.later = []

    def _change(self, program):
        """The deed by which this program comes, if it is let."""
        if not is_bounded_program(program):
            raise Unfit()
        self._done(program, self.states[-1][1])

    def put(self, path, items):
        """ITEMS in the place of the one at path."""
        self._change(_put(self.program(), frozen(path), frozen(items)))

    def put_block(self, block, way):
        """This WAY in the place of that of the block."""
        machine, dealt, blocks = self.program()
        if not is_below(block, len(blocks)):
            raise NoBlock(block)
        self._change((machine, dealt, (*blocks[:block], frozen(way), *blocks[block + 1:])))

    def add_block(self, way):
        """A block more, the last one."""
        machine, dealt, blocks = self.program()
        self._change((machine, dealt, (*blocks, frozen(way))))

    def drop_block(self, block):
        """The block goes; greater ones are called by one less."""
        machine, dealt, blocks = self.program()
        if not is_below(block, len(blocks)):
            raise NoBlock(block)
        rest = (*blocks[:block], *blocks[block + 1:])
        if block == 0 or any([block in calls_in(way) for way in rest]):
            raise Unfit()
        left = [changed_way(way, lambda item: _called_less(item, block)) for way in rest]
        self._change((machine, dealt, tuple(left)))

    def lay(self, slot, bus):
        """The register on this bus, or on none."""
        (prime, buses, sorts), dealt, blocks = self.program()
        if not is_below(slot, len(buses)):
            raise NoRegister(slot)
        self._change(((prime, (*buses[:slot], bus, *buses[slot + 1:]), sorts), dealt, blocks))

    def price(self, word, price):
        """The sort has this price, or is there no more."""
        (prime, buses, sorts), dealt, blocks = self.program()
        rest = [own for own in sorts if own[0] != word]
        if price is not None:
            rest.append((word, price))
        self._change(((prime, buses, tuple(sorted(rest, key=_word_of_sort))), dealt, blocks))

    def deal(self, dealt):
        """These SHARINGS."""
        machine, _, blocks = self.program()
        self._change((machine, frozen(dealt), blocks))

    def watch(self, form, most):
        """One more watch, the last."""
        form, (program, watches) = frozen(form), self.states[-1]
        if form is not None and not (is_row(form, program[0][0], len(program[1])) and any(form)):
            raise Unfit()
        if not is_below(most, _MOST + 1):
            raise Unfit()
        self._done(program, (*watches, (form, most)))

    def unwatch(self, place):
        """The watch at this place goes."""
        program, watches = self.states[-1]
        if not is_below(place, len(watches)):
            raise Unfit()
        self._done(program, (*watches[:place], *watches[place + 1:]))

    def undo(self):
        """Takes back the last deed."""
        if len(self.states) == 1:
            raise NothingDone()
        self.later.append(self.states.pop())

    def redo(self):
        """Does again the last deed that was taken back."""
        if not self.later:
            raise NothingDone()
        self.states.append(self.later.pop())

    def _clean_program(self):
        if not self.clean():
            raise CanNot()
        return self.program()

    def cheapest(self):
        """The cheapest TELLING; None if there is none."""
        return cheapest_telling(self._clean_program())

    def least_price(self):
        """The least price of a TELLING; None if there is none."""
        return least_price(self._clean_program())

    def weak(self):
        """The set of the paths of the ITEMS whose LINES are looked at in the cheapest TELLING."""
        told = self.cheapest()
        if told is None:
            return ()
        paths = line_paths(self.program(), told[0])
        return as_set([paths[mark[0]] for mark, _ in told[1]])

    def broken(self):
        """The set of the places of the watches that are not kept."""
        return _broken(self._clean_program(), self.states[-1][1])

    def effect(self, path, items):
        """What least_price and broken would tell behind the put of these ITEMS."""
        program = _put(self.program(), frozen(path), frozen(items))
        if not is_bounded_program(program):
            raise Unfit()
        if not is_clean(program):
            raise CanNot()
        return least_price(program), _broken(program, self.states[-1][1])

    def twin(self):
        """A Board with the same PROGRAM, watches and deeds, which goes its own way."""
        other = Board(self.program())
        other.states = list(self.states)
        other.later = list(self.later)
        return other


def _word_of_sort(pair):
    return pair[0]


def _called_less(item, block):
    """The items that come of one if the block goes."""
    if item[0] == "call" and item[1] > block:
        return (("call", item[1] - 1, item[2]),)
    return (item,)
