"""Items and ways: where they stand, and how many lines they make."""

from anydlooks.errors import NoItem
from anydlooks.plain import as_set, is_counts

# How many lines, where there is no greatest number of them.
ENDLESS = -1


def nested_items(prefix, way):
    """The pairs (path, item) of all items in way, whose own paths begin with prefix, ascending."""
    found = []
    for place, item in enumerate(way):
        path = (*prefix, place)
        found.append((path, item))
        for inner, ways in inner_ways(path, item):
            found.extend(nested_items(inner, ways))
    return found


def inner_ways(path, item):
    """The pairs (prefix, way) of the ways that stand in the item at path.

    ("times", way, number), a "many" gone round just so many times, is the package's own.
    """
    if item[0] == "one":
        return [((*path, number), way) for number, way in enumerate(item[1])]
    if item[0] in ("many", "times"):
        return [(path, item[1])]
    return []


def all_items(program):
    """The pairs (path, item) of all items, paths ascending."""
    found = []
    for number, way in enumerate(program[2]):
        found.extend(nested_items((number,), way))
    return found


def found_item(program, path):
    """The item at path."""
    if is_counts(path):
        for own, item in all_items(program):
            if own == path:
                return item
    raise NoItem(path)


def way_with(way, rest, items, taken):
    """The way with items in the place of as many as are taken, to which rest, the end of a path, leads."""
    place = rest[0]
    if len(rest) == 1:
        return way[:place] + items + way[place + taken:]
    item = way[place]
    if item[0] == "many":
        new = ("many", way_with(item[1], rest[1:], items, taken))
    else:
        ways = list(item[1])
        ways[rest[1]] = way_with(ways[rest[1]], rest[2:], items, taken)
        new = ("one", tuple(ways))
    return (*way[:place], new, *way[place + 1:])


def program_with(program, path, items, taken):
    """The program with items in the place of as many as are taken at path."""
    blocks = list(program[2])
    blocks[path[0]] = way_with(blocks[path[0]], path[1:], items, taken)
    return program[0], program[1], tuple(blocks)


def changed_way(way, change):
    """The way with what change makes of each item, a tuple of items; of "one" and "many" their ways are changed."""
    found = []
    for item in way:
        if item[0] == "one":
            found.append(("one", tuple([changed_way(own, change) for own in item[1]])))
        elif item[0] == "many":
            found.append(("many", changed_way(item[1], change)))
        else:
            found.extend(change(item))
    return tuple(found)


def all_spots(blocks):
    """The list, ascending, of the paths of all items, and of the ends of all ways."""
    found = []
    for number, way in enumerate(blocks):
        found.extend(_spots_in((number,), way))
    return sorted(found)


def _spots_in(prefix, way):
    found = [(*prefix, place) for place in range(len(way) + 1)]
    for place, item in enumerate(way):
        for inner, own in inner_ways((*prefix, place), item):
            found.extend(_spots_in(inner, own))
    return found


def line_of_item(item):
    """The LINE that a set or a draw makes."""
    return item if item[0] == "set" else ("draw", item[1], ())


def calls_in(way):
    """The numbers of the blocks that items of the way call, at whatever depth."""
    return [item[1] for _, item in nested_items((), way) if item[0] == "call"]


def led_to(calls, start):
    """The blocks to which calls, one or more, pairs (block, callee), lead from one of start."""
    found = as_set([callee for block, callee in calls if block in start])
    while True:
        more = as_set(found + tuple([callee for block, callee in calls if block in found]))
        if more == found:
            return found
        found = more


def in_rings(calls, many):
    """The set of those of so many blocks from which calls lead back to themselves."""
    return tuple([number for number in range(many) if number in led_to(calls, (number,))])


def fewest_in(way, table):
    """The fewest lines of a run of the way, table having them for each block; None without a run."""
    lines = [fewest_of(item, table) for item in way]
    return None if None in lines else sum(lines)


def fewest_of(item, table):
    """The fewest lines of a run of the item, likewise."""
    if item[0] == "many":
        return 0
    if item[0] == "one":
        lines = [fewest_in(way, table) for way in item[1]]
        return min([own for own in lines if own is not None], default=None)
    if item[0] == "call":
        inner = table[item[1]]
        return None if inner is None else inner + len(item[2])
    if item[0] == "times":
        lines = fewest_in(item[1], table)
        return None if lines is None else lines * item[2]
    return 1


def fewest_lines_of(blocks):
    """For each block the fewest lines of a run of it, or None."""
    table = [None] * len(blocks)
    for _ in blocks:
        table = [fewest_in(way, table) for way in blocks]
    return table


def _most_in(way, table):
    lines = [_most_of(item, table) for item in way]
    if None in lines:
        return None
    return ENDLESS if ENDLESS in lines else sum(lines)


def _most_of(item, table):
    if item[0] == "many":
        # A way that cannot be gone can still be gone round none times.
        return ENDLESS if _most_in(item[1], table) else 0
    if item[0] == "one":
        lines = [_most_in(way, table) for way in item[1]]
        return ENDLESS if ENDLESS in lines else max([own for own in lines if own is not None], default=None)
    if item[0] == "call":
        inner = table[item[1]]
        return inner if inner in (None, ENDLESS) else inner + len(item[2])
    return 1


def most_lines_of(blocks):
    """For each block the most lines of a run of it, None, or ENDLESS.

    As many rounds as blocks find the most lines wherever there is a most; what still grows
    in later rounds (three times as many are enough for one time round of a ring) has none.
    """
    table = [None] * len(blocks)
    for _ in blocks:
        table = [_most_in(way, table) for way in blocks]
    later = table
    for _ in range(3 * len(blocks)):
        later = [_most_in(way, later) for way in blocks]
    ends = [own if own == more else ENDLESS for own, more in zip(table, later)]
    for _ in blocks:
        ends = [own if own == ENDLESS else _most_in(way, ends) for own, way in zip(ends, blocks)]
    return ends
