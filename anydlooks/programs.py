"""Machines, ways and programs: what they are, and what stands in them."""

from anydlooks.errors import NoBus, NoRegister, Unfit
from anydlooks.plain import as_set, ascends, frozen, is_below, is_count, is_counts, is_number, is_tuple_of, power
from anydlooks.ways import (
    ENDLESS, all_items, calls_in, fewest_lines_of, found_item, in_rings, led_to, most_lines_of, program_with,
)

_WORDS = ("pass", "put", "read", "turn")


def is_machine(thing):
    """Whether thing is a MACHINE."""
    if not is_tuple_of(thing, 3):
        return False
    prime, buses, sorts = thing
    return is_number(prime) and prime in (2, 3, 5) and _are_buses(buses) and _are_sorts(sorts)


def _are_buses(thing):
    if not isinstance(thing, tuple) or not thing:
        return False
    numbers = [own for own in thing if own is not None]
    if not all([is_count(own) for own in numbers]):
        return False
    return not numbers or len(set(numbers)) == max(numbers) + 1


def _are_sorts(thing):
    if not isinstance(thing, tuple) or not thing:
        return False
    return all([_is_sort(own) for own in thing]) and ascends([own[0] for own in thing])


def _is_sort(thing):
    return is_tuple_of(thing, 2) and thing[0] in _WORDS and is_number(thing[1]) and 1 <= thing[1] <= 9


def is_program(thing):
    """Whether thing is a PROGRAM, clean or not."""
    if not is_tuple_of(thing, 3):
        return False
    machine, dealt, blocks = thing
    if not is_machine(machine) or not _are_sharings(dealt, len(machine[1])):
        return False
    if not isinstance(blocks, tuple) or not blocks:
        return False
    return all([_is_way(machine, len(blocks), way) for way in blocks])


def _are_sharings(thing, slots):
    if not isinstance(thing, tuple) or not thing:
        return False
    if not all([is_set_below(own, slots) and len(own) >= 2 for own in thing]):
        return False
    parts = [slot for own in thing for slot in own]
    return len(set(parts)) == len(parts)


def is_set_below(thing, bound):
    """Whether thing is a set of numbers from 0 to below bound."""
    return is_counts(thing) and ascends(thing) and all([own < bound for own in thing])


def is_way(machine, many, thing):
    """Whether thing is a WAY of this machine and so many blocks."""
    return _is_way(frozen(machine), many, thing)


def _is_way(machine, many, thing):
    return isinstance(thing, tuple) and all([_is_item(machine, many, own) for own in thing])


def _is_item(machine, many, thing):
    if not isinstance(thing, tuple) or len(thing) not in (2, 3):
        return False
    slots = len(machine[1])
    if len(thing) == 3:
        if thing[0] == "set":
            return is_below(thing[1], slots) and is_sum(machine[0], slots, thing[2])
        return thing[0] == "call" and is_below(thing[1], many) and is_set_below(thing[2], slots)
    if thing[0] == "draw":
        return is_below(thing[1], slots)
    if thing[0] == "many":
        return _is_way(machine, many, thing[1])
    return thing[0] == "one" and _are_ways(machine, many, thing[1])


def _are_ways(machine, many, thing):
    if not isinstance(thing, tuple) or not 2 <= len(thing) <= 4:
        return False
    return all([_is_way(machine, many, own) for own in thing])


def is_sum(prime, slots, thing):
    """Whether thing is the sum of a set, of so many registers."""
    if not isinstance(thing, tuple) or not all([_is_pair(prime, slots, own) for own in thing]):
        return False
    return ascends([own[0] for own in thing])


def _is_pair(prime, slots, thing):
    return is_tuple_of(thing, 2) and is_below(thing[0], slots) and is_below(thing[1], prime) and thing[1] > 0


def sizes(program):
    """How many registers, buses and ASKINGS there are."""
    prime, buses, _ = frozen(program)[0]
    own = len(_buses_of(buses))
    return len(buses), own, power(prime, len(buses) + own)


def _buses_of(buses):
    return as_set([bus for bus in buses if bus is not None])


def on_bus(program, bus):
    """The set of the registers that lie on this bus."""
    buses = frozen(program)[0][1]
    if not is_below(bus, len(_buses_of(buses))):
        raise NoBus(bus)
    return tuple([slot for slot, own in enumerate(buses) if own == bus])


def items_of(program):
    """The list of the pairs (path, ITEM), paths ascending."""
    return all_items(frozen(program))


def item_at(program, path):
    """The ITEM at this path."""
    return found_item(frozen(program), frozen(path))


def replaced(program, path, items):
    """The PROGRAM with these ITEMS in the place of the one at path."""
    program, path, items = frozen(program), frozen(path), frozen(items)
    found_item(program, path)
    if not isinstance(items, tuple):
        raise Unfit()
    result = program_with(program, path, items, 1)
    if not is_program(result):
        raise Unfit()
    return result


def _checked_slot(program, slot):
    if not is_below(slot, len(program[0][1])):
        raise NoRegister(slot)


def writers(program, slot):
    """The set of the paths of the ITEMS that write this register."""
    program = frozen(program)
    _checked_slot(program, slot)
    return tuple([path for path, item in all_items(program) if _writes(item, slot)])


def _writes(item, slot):
    if item[0] == "call":
        return slot in item[2]
    return item[0] in ("set", "draw") and item[1] == slot


def readers(program, slot):
    """The set of the paths of the sets whose sum has this register."""
    program = frozen(program)
    _checked_slot(program, slot)
    return tuple([path for path, item in all_items(program) if _reads(item, slot)])


def _reads(item, slot):
    return item[0] == "set" and slot in [own[0] for own in item[2]]


def block_calls(program):
    """The set of the pairs (block, callee)."""
    return _calls(frozen(program)[2])


def _calls(blocks):
    return as_set([(number, callee) for number, way in enumerate(blocks) for callee in calls_in(way)])


def rings(program):
    """The set of the blocks from which calls lead back to themselves."""
    blocks = frozen(program)[2]
    return in_rings(_calls(blocks), len(blocks))


def fruitful(program):
    """The set of the fruitful blocks."""
    lines = fewest_lines_of(frozen(program)[2])
    return tuple([number for number, own in enumerate(lines) if own is not None])


def reached(program):
    """The set of 0 and the blocks to which calls lead from it."""
    return as_set((0, *led_to(_calls(frozen(program)[2]), (0,))))


def is_clean(program):
    """Whether all blocks are fruitful and reached."""
    every = tuple(range(len(program[2])))
    return fruitful(program) == every and reached(program) == every


def shortest(program):
    """The fewest LINES of a RUN; None if there is no RUN."""
    return fewest_lines_of(frozen(program)[2])[0]


def longest(program):
    """The most LINES of a RUN; None if there is no RUN, or no greatest number."""
    lines = most_lines_of(frozen(program)[2])[0]
    return None if lines == ENDLESS else lines
