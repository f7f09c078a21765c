"""Which registers items can write, and which they can read."""

from anydlooks.plain import as_set
from anydlooks.ways import nested_items


def way_touches(way, table):
    """The pair of the sets of the registers that the way can write, and read, table telling them of blocks."""
    written, read = [], []
    for _, item in nested_items((), way):
        if item[0] == "call":
            more, less = table[item[1]]
            written.extend(more + item[2])
            read.extend(less + item[2])
        elif item[0] in ("set", "draw"):
            written.append(item[1])
        if item[0] == "set":
            read.extend([slot for slot, _ in item[2]])
    return as_set(written), as_set(read)


def block_touches(blocks):
    """For each block the pair of the sets of the registers that it can write, and read."""
    table = [((), ()) for _ in blocks]
    while True:
        more = [way_touches(way, table) for way in blocks]
        if more == table:
            return table
        table = more


def are_free_items(item, other, table):
    """Whether neither item writes what the other one writes or reads."""
    written, read = way_touches((item,), table)
    more, less = way_touches((other,), table)
    return not any([slot in more + less for slot in written]) and not any([slot in read for slot in more])
