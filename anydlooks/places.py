"""Items in another order, registers merged, and registers laid on other buses."""

from anydlooks.courses import followed
from anydlooks.errors import CanNot, NoBlock, NoBus, NoItem, NoRegister, TooMany, Unfit
from anydlooks.moves import full_view
from anydlooks.plain import as_set, frozen, is_below, is_tuple_of, power
from anydlooks.prices import least_told_price
from anydlooks.sights import bus_count
from anydlooks.touches import are_free_items, block_touches
from anydlooks.waits import Waits, Writes
from anydlooks.ways import all_items, changed_way, found_item, program_with


def _neighbours(program, path):
    """The ITEM at path and the next one of its WAY; raises NoItem(path) if there is no such one."""
    item, following = found_item(program, path), (*path[:-1], path[-1] + 1)
    found = [own for place, own in all_items(program) if place == following]
    if not found:
        raise NoItem(path)
    return item, found[0]


def _are_free(program, path):
    item, other = _neighbours(program, path)
    return are_free_items(item, other, block_touches(program[2]))


def are_free(program, path):
    """Whether the ITEM of path and the next one of its WAY are free."""
    return _are_free(frozen(program), frozen(path))


def swapped(program, path):
    """The PROGRAM with the ITEM of path and the next one exchanged."""
    program, path = frozen(program), frozen(path)
    if not _are_free(program, path):
        raise CanNot()
    item, other = _neighbours(program, path)
    return program_with(program, path, (other, item), 2)


def _check_block(program, block):
    if not is_below(block, len(program[2])):
        raise NoBlock(block)


def _orders(program, block):
    """The list of the orders of the block, ascending."""
    way, table, found = program[2][block], block_touches(program[2]), [()]
    # What has to stay ahead of each item: what stands there and is not free of it.
    ahead = [[place for place in range(number) if not are_free_items(way[place], way[number], table)]
             for number in range(len(way))]
    for _ in way:
        # Each begin of an order goes on to an order, so there are no more of these.
        found = [(*own, number) for own in found for number in range(len(way))
                 if number not in own and all([place in own for place in ahead[number]])]
        if len(found) > 24:
            raise TooMany()
    return found


def orders(program, block):
    """The list of the orders of the block."""
    program = frozen(program)
    _check_block(program, block)
    return _orders(program, block)


def _in_order(program, block, order):
    blocks = list(program[2])
    blocks[block] = tuple([blocks[block][place] for place in order])
    return program[0], program[1], tuple(blocks)


def in_order(program, block, order):
    """The PROGRAM with this order of the block."""
    program = frozen(program)
    _check_block(program, block)
    return _in_order(program, block, order)


def _price(program, most):
    return least_told_price(program, full_view(program[0]), most)


def _best_of(ways, most):
    """The greatest of the least prices of pairs (way, PROGRAM), and the list of the ways with it."""
    told = [(way, _price(program, most)) for way, program in ways]
    prices = [price for _, price in told]
    best = None if None in prices else max(prices)
    return best, [way for way, price in told if price == best]


def best_orders(program, block, most):
    """The greatest of the least prices by all orders, and the list of the orders with it."""
    program = frozen(program)
    _check_block(program, block)
    return _best_of([(own, _in_order(program, block, own)) for own in _orders(program, block)], most)


def _check_pair(program, slot, other):
    for own in (slot, other):
        if not is_below(own, len(program[0][1])):
            raise NoRegister(own)
    if slot == other or other in _parts(program):
        raise Unfit()


def _parts(program):
    return [slot for own in program[1] for slot in own]


def _clash(program, slot, other):
    """A CLASH of slot and other; None if they are apart."""
    one, more = Waits(program[2], slot, other), Waits(program[2], other, slot)
    found = [one.clash(), more.clash()]
    if slot in _parts(program):
        found.append(one.clash_at_beginning())
    found = [own for own in found if own is not None]
    return found[0] if found else None


def clash(program, slot, other):
    """A CLASH of slot and other; None if they are apart."""
    program = frozen(program)
    _check_pair(program, slot, other)
    return _clash(program, slot, other)


def is_clash(program, slot, other, thing):
    """Whether thing is a CLASH of slot and other."""
    program = frozen(program)
    _check_pair(program, slot, other)
    if not is_tuple_of(thing, 3):
        return False
    run, number, later = thing
    course = followed(program, run)
    if course is None or course.wanted is not None or not is_below(later, course.lines):
        return False
    if number is None:
        return slot in _parts(program) and _waits(program[0], course, (other, -1), later)
    if not is_below(number, course.lines):
        return False
    written = Writes(program[0], course, slot).track.line_at(number)[1]
    if written not in (slot, other):
        return False
    return _waits(program[0], course, (other if written == slot else slot, number), later)


def _waits(machine, course, waiting, later):
    """Whether the register waits behind the LINE number for the LINE later; waiting is (register, number)."""
    slot, number = waiting
    writes = Writes(machine, course, slot)
    line, start = writes.track.line_at(later), later
    if line[0] == "back" and line[1] == slot:
        start = line[2]
    elif line[0] != "set" or slot not in [own for own, _ in line[2]]:
        return False
    return number < start and writes.last_ahead(start) <= number


def _packed(buses):
    """The buses of a MACHINE, those on which nothing lies being left out."""
    used = as_set([bus for bus in buses if bus is not None])
    return tuple([None if bus is None else used.index(bus) for bus in buses])


def _merged(program, slot, other):
    (prime, buses, sorts), dealt, blocks = program
    names = [own - int(own > other) for own in range(len(buses))]
    names[other] = names[slot]

    def renamed(item):
        if item[0] == "draw":
            return (("draw", names[item[1]]),)
        if item[0] == "call":
            return (("call", item[1], as_set([names[own] for own in item[2]])),)
        sums = {}
        for place, residue in item[2]:
            sums[names[place]] = (sums.get(names[place], 0) + residue) % prime
        return (("set", names[item[1]], tuple(sorted([pair for pair in sums.items() if pair[1]]))),)

    lying = _packed(buses[:other] + buses[other + 1:])
    parts = tuple([tuple([names[own] for own in sharing]) for sharing in dealt])
    return (prime, lying, sorts), parts, tuple([changed_way(way, renamed) for way in blocks])


def merged(program, slot, other):
    """The PROGRAM in which slot stands for other."""
    program = frozen(program)
    _check_pair(program, slot, other)
    if _clash(program, slot, other) is not None:
        raise CanNot()
    return _merged(program, slot, other)


def merged_prices(program, most):
    """The list of the pairs ((slot, other), least price of merged) for all that are apart."""
    program = frozen(program)
    slots, parts = list(range(len(program[0][1]))), _parts(program)
    pairs = [(slot, other) for slot in slots for other in slots if slot != other and other not in parts]
    return [((slot, other), _price(_merged(program, slot, other), most)) for slot, other in pairs
            if _clash(program, slot, other) is None]


def _laid(program, buses):
    prime, _, sorts = program[0]
    return (prime, _packed(buses), sorts), program[1], program[2]


def laid(program, slot, bus):
    """The PROGRAM with slot on this bus, or on none."""
    program = frozen(program)
    if not is_below(slot, len(program[0][1])):
        raise NoRegister(slot)
    if bus is not None and not is_below(bus, bus_count(program[0]) + 1):
        raise NoBus(bus)
    buses = list(program[0][1])
    buses[slot] = bus
    return _laid(program, buses)


def _buses_used(buses):
    return len(as_set([bus for bus in buses if bus is not None]))


def _layings(prime, buses, many):
    """The list of all ways to lay on at most many buses what lies on buses, ascending."""
    found = [()]
    for bus in buses:
        if bus is None:
            found = [(*own, None) for own in found]
        else:
            found = [(*own, more) for own in found for more in range(min(many, _buses_used(own) + 1))]
        if len(found) > 15:
            raise TooMany()
    if any([power(prime, len(buses) + _buses_used(own)) > 32 for own in found]):
        raise TooMany()
    return found


def best_laid(program, many, most):
    """The greatest of the least prices by all ways to lay on at most many buses, and the list of these ways."""
    program = frozen(program)
    ways = _layings(program[0][0], program[0][1], many)
    return _best_of([(own, _laid(program, own)) for own in ways], most)
