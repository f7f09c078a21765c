"""Least RUNS: what fewest lines, then fewest numbers, then the least numbers lead through.

A triple (lines, count, run) tells of a run how many lines and numbers it has, so that of
triples the least is that of the least run.
"""

from anydlooks.courses import followed
from anydlooks.errors import TooMany, Unfit
from anydlooks.ways import all_items, fewest_in, fewest_lines_of, fewest_of, in_rings, inner_ways

_MOST_RUNS = 2000


def _joined(triples):
    """The triple of runs one behind the other; None if one is missing."""
    if None in triples:
        return None
    run = []
    for triple in triples:
        run.extend(triple[2])
    return sum([own[0] for own in triples]), len(run), tuple(run)


def _least(triples):
    return min([own for own in triples if own is not None], default=None)


def _chosen(number, triple):
    """The triple with one more number, chosen ahead of it."""
    return None if triple is None else (triple[0], triple[1] + 1, (number, *triple[2]))


def _called(item, triple):
    """The triple with the put backs of a call behind it."""
    return None if triple is None else (triple[0] + len(item[2]), triple[1], triple[2])


def _least_in(way, table):
    return _joined([_least_of(item, table) for item in way])


def _least_of(item, table):
    if item[0] == "one":
        return _least([_chosen(number, _least_in(way, table)) for number, way in enumerate(item[1])])
    if item[0] == "many":
        return 0, 1, (0,)
    if item[0] == "call":
        return _called(item, table[item[1]])
    return 1, 0, ()


def least_runs(blocks):
    """For each block the triple of its least run.

    A block within itself has more numbers, so as many rounds as blocks find all.
    """
    table = [None] * len(blocks)
    for _ in blocks:
        table = [_least_in(way, table) for way in blocks]
    return table


def finished_run(program, row):
    """The least RUN told by row."""
    course = followed(program, row)
    if course is None:
        raise Unfit()
    table = least_runs(program[2])
    rest = [] if course.wanted is None else list(_least_of(course.wanted[1], table)[2])
    for word, _, what, number in reversed(course.frames):
        if word == "way":
            rest.extend(_least_in(what[number:], table)[2])
        elif word == "loop":
            rest.extend(_least_in(what, table)[2] * number)
    return (*row, *rest)


def least_to(blocks, path):
    """The triple of the least RUN of block 0 that comes to the item at path."""
    table = least_runs(blocks)
    reach = [None] * len(blocks)
    for _ in blocks:
        reach = [_to_in((number,), way, path, table, reach) for number, way in enumerate(blocks)]
    return reach[0]


def _to_in(prefix, way, path, table, reach):
    """The least triple for the way that comes to path, reach telling it of blocks."""
    found = []
    for place, item in enumerate(way):
        inner = _to_of((*prefix, place), item, path, table, reach)
        if inner is not None:
            found.append(_joined([_least_in(way[:place], table), inner, _least_in(way[place + 1:], table)]))
    return _least(found)


def _to_of(own, item, path, table, reach):
    if own == path:
        return _least_of(item, table)
    if item[0] == "one":
        ways = [_to_in((*own, number), way, path, table, reach) for number, way in enumerate(item[1])]
        return _least([_chosen(number, triple) for number, triple in enumerate(ways)])
    if item[0] == "many":
        return _chosen(1, _to_in(own, item[1], path, table, reach))
    if item[0] == "call":
        return _called(item, reach[item[1]])
    return None


def all_runs(program, many):
    """The triples of all RUNS with at most many LINES, ascending; TooMany() above 2,000.

    Each row that is live begins at least one RUN more, so live ones count, too.
    """
    fewest = fewest_lines_of(program[2])
    if _are_endless(program, fewest, many):
        raise TooMany()
    found, live = [], [((), followed(program, ()))]
    live = [own for own in live if _lines_ahead(own[1], fewest) <= many]
    while live:
        following = []
        for row, course in live:
            if course.wanted is None:
                found.append((course.lines, len(row), row))
                continue
            for number in _numbers(course, fewest, many):
                other = course.branch()
                other.take(number)
                following.append(((*row, number), other))
                if len(found) + len(following) > _MOST_RUNS:
                    raise TooMany()
        live = following
    if len(found) > _MOST_RUNS:
        raise TooMany()
    return sorted(found)


def _lines_ahead(course, fewest):
    """The fewest LINES of a RUN that goes on from here, if what is wanted makes none."""
    total = course.lines
    for word, _, what, number in course.frames:
        if word == "way":
            total += fewest_in(what[number:], fewest)
        elif word == "loop":
            total += fewest_in(what, fewest) * number
        elif word == "call":
            total += len(what[2])
    return total


def _numbers(course, fewest, many):
    """The numbers that can be chosen here so that some RUN has at most many LINES."""
    item, rest = course.wanted[1], many - _lines_ahead(course, fewest)
    if item[0] == "one":
        return [number for number, way in enumerate(item[1]) if fewest_in(way, fewest) <= rest]
    return list(range(rest // fewest_in(item[1], fewest) + 1))


def _are_endless(program, fewest, many):
    """Whether there is no end of RUNS with at most many LINES.

    There is none just if one of them comes to a "many" whose way can make no lines, or to a
    block that can come to itself again while no lines are made.
    """
    blocks = program[2]
    calls = [(number, callee) for number, way in enumerate(blocks) for callee in _still_callees(way, fewest)]
    rings = in_rings(calls, len(blocks))
    for path, item in all_items(program):
        if item[0] == "many" and not fewest_in(item[1], fewest) or item[0] == "call" and item[1] in rings:
            if least_to(blocks, path)[0] <= many:
                return True
    return False


def _still_callees(way, fewest):
    """The blocks that the way can come to while no lines are made outside of them."""
    lines, found = [fewest_of(own, fewest) for own in way], []
    for place, item in enumerate(way):
        if any(lines[:place] + lines[place + 1:]):
            continue
        if item[0] == "call" and not item[2]:
            found.append(item[1])
        for _, inner in inner_ways((), item):
            found.extend(_still_callees(inner, fewest))
    return found
