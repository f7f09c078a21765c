"""The bounds of programs, as the document states them for all that is passed in."""

from anydlooks.plain import power
from anydlooks.programs import is_program
from anydlooks.rule import asking_length
from anydlooks.ways import all_items, inner_ways

_ASKINGS = 32
_SHARINGS = 4
_BLOCKS = 6
_ITEMS_OF_WAY = 12
_ITEMS = 40
_DEPTH = 4


def is_bounded_program(thing):
    """Whether thing is a PROGRAM within the bounds, but for those of RUNS."""
    return is_program(thing) and _is_small(thing)


def _is_small(program):
    machine, dealt, blocks = program
    length = asking_length(machine)
    if length > _ASKINGS or power(machine[0], length) > _ASKINGS or len(dealt) > _SHARINGS or len(blocks) > _BLOCKS:
        return False
    return all([_is_small_way(way, _DEPTH) for way in blocks]) and len(all_items(program)) <= _ITEMS


def _is_small_way(way, depth):
    """Whether the way, and those in it, have few items, and at most so many lie within one another."""
    if len(way) > _ITEMS_OF_WAY:
        return False
    inner = [own for item in way for _, own in inner_ways((), item)]
    return not inner or depth > 0 and all([_is_small_way(own, depth - 1) for own in inner])
