"""Blocks in one another's place: which may stand for which, whatever is put around them."""

from anydlooks.blocks import BY_PRICE, Pieces
from anydlooks.errors import CanNot, NoBlock
from anydlooks.hosts import host_of, run_in_draws
from anydlooks.marks import price_of_word
from anydlooks.moves import full_view
from anydlooks.plain import as_set, frozen, is_below, is_tuple_of
from anydlooks.prices import least_told_price
from anydlooks.programs import is_machine, is_program
from anydlooks.ways import calls_in, changed_way, led_to


def _check_blocks(program, numbers):
    """Raises NoBlock(number) for the first one that is none."""
    for number in numbers:
        if not is_below(number, len(program[2])):
            raise NoBlock(number)


def _check_sorts(machine):
    if price_of_word(machine, "read") is not None:
        raise CanNot()


def _tables(program):
    """For each block a dict that tells the prices of its least table, however great, by (ahead, behind)."""
    pieces = Pieces(program[0], full_view(program[0]), None, BY_PRICE, False)
    tables = [pieces.places.table(grid) for grid in pieces.least(program[2])]
    return [{(ahead, behind): price for ahead, behind, price in own} for own in tables]


def _put(found, key, price):
    if price < found.get(key, price + 1):
        found[key] = price


def _mended(machine, table):
    """The dict of the mended prices of a block with this one."""
    prime, slots = machine[0], len(machine[1])
    passed, put = price_of_word(machine, "pass"), price_of_word(machine, "put")
    found = table
    for bus in as_set([own for own in machine[1] if own is not None]):
        place, more = slots + bus, {}
        for (ahead, behind), price in found.items():
            nears = _as_near(prime, ahead[place], put)
            fars = _as_far(prime, behind[place], (passed, put))
            for near, one in nears:
                for far, two in fars:
                    key = (_with(ahead, place, near), _with(behind, place, far))
                    _put(more, key, price + one + two)
        found = more
    return found


def _with(asking, place, residue):
    return (*asking[:place], residue, *asking[place + 1:])


def _as_near(prime, near, put):
    """The pairs (what is asked of the bus ahead, price), if near is asked by the block."""
    if put is None:
        return [(near, 0)]
    return [(own, 0 if own == near else put) for own in range(prime)]


def _as_far(prime, far, prices):
    """Likewise behind the block, prices being those of "pass" and "put"."""
    passed, put = prices
    if far and passed is None:
        return []
    base = passed if far else 0
    found = [(far, base)]
    if put is not None:
        # Behind 0 nobody looks at the bus, so that nothing else is asked there.
        found.extend([(own, base + put) for own in range(1, prime) if own != far])
    return found


def _all_mended(program):
    """The dicts of the mended prices of all blocks."""
    _check_sorts(program[0])
    return [_mended(program[0], own) for own in _tables(program)]


def _as_table(prices):
    return tuple(sorted([(ahead, behind, price) for (ahead, behind), price in prices.items()]))


def mended(program, block):
    """The TABLE of all mended prices of the block."""
    program = frozen(program)
    _check_blocks(program, (block,))
    return _as_table(_all_mended(program)[block])


def _less(one, other):
    """The ascending list of the ENTRIES of other that are less than in one, or stand where one has none."""
    return [own for own in _as_table(other) if own[2] < one.get(own[:2], own[2] + 1)]


def _first_less(program, block, other):
    _check_blocks(program, (block, other))
    tables = _all_mended(program)
    found = _less(tables[block], tables[other])
    return found[0] if found else None


def may_stand(program, block, other):
    """Whether other may stand for block."""
    return _first_less(frozen(program), block, other) is None


def first_less(program, block, other):
    """The least triple (ahead, behind, price) of a mended price of other that is less than that of block."""
    return _first_less(frozen(program), block, other)


def stand_pairs(program):
    """The set of the pairs (block, other) of unlike blocks of which other may stand for block."""
    tables = _all_mended(frozen(program))
    numbers = range(len(tables))
    return tuple([(block, other) for block in numbers for other in numbers
                  if block != other and not _less(tables[block], tables[other])])


def alike_blocks(program):
    """The list of the sets of blocks any of which may stand for any other."""
    tables = _all_mended(frozen(program))
    sets = [tuple([number for number, other in enumerate(tables) if other == own]) for own in tables]
    return sorted(as_set(sets))


def nowhere_less(program, block, other):
    """Whether no ENTRY of the least table of other is less than that of block."""
    program = frozen(program)
    _check_blocks(program, (block, other))
    tables = _tables(program)
    return not _less(tables[block], tables[other])


def is_host(program, thing):
    """Whether thing is a HOST of program."""
    return _is_host(frozen(program), thing)


def _is_host(program, thing):
    if not is_tuple_of(thing, 4) or not is_machine(thing[0]):
        return False
    machine, dealt, first, last = thing
    (prime, buses, sorts), slots = machine, len(program[0][1])
    if prime != program[0][0] or sorts != program[0][2] or buses[:slots] != program[0][1]:
        return False
    if not is_program((machine, dealt, (first, last))):
        return False
    return all([item[0] in ("set", "draw") for item in first + last])


def hosted(program, host, block):
    """The PROGRAM of the block in the HOST."""
    program, host = frozen(program), frozen(host)
    _check_blocks(program, (block,))
    return _hosted(program, host, block)


def _hosted(program, host, block):
    calls = [(number, callee) for number, way in enumerate(program[2]) for callee in calls_in(way)]
    order = [block] + [number for number in led_to(calls, (block,)) if number != block]

    def told_anew(item):
        return (("call", order.index(item[1]) + 1, item[2]),) if item[0] == "call" else (item,)

    machine, dealt, first, last = host
    ways = [changed_way(program[2][number], told_anew) for number in order]
    return machine, dealt, (first + (("call", 1, ()),) + last, *ways)


def _price(program, host, block, most):
    return least_told_price(_hosted(program, host, block), full_view(host[0]), most)


def _is_against(program, block, other, host):
    """Whether the least price is lesser with other than with block, or there with other alone."""
    price = _price(program, host, other, None)
    return price is not None and _price(program, host, block, price) is None


def is_host_against(program, block, other, thing):
    """Whether thing is a HOST which shows that other may not stand for block."""
    program = frozen(program)
    _check_blocks(program, (block, other))
    return _is_host(program, thing) and _is_against(program, block, other, thing)


def host_against(program, block, other):
    """A HOST which shows that other may not stand for block; None if it may."""
    program = frozen(program)
    entry = _first_less(program, block, other)
    if entry is None:
        return None
    number = 0
    while True:
        host = host_of(program[0], entry, number)
        if number >= run_in_draws(program[0], entry) or _is_against(program, block, other, host):
            return host
        number += 1
