"""SOURCES, programs without parts, and the programs that are made of them."""

from anydlooks.courses import whole_course, written_out
from anydlooks.errors import CanNot, NoItem, NoRegister, TooMany, Unfit
from anydlooks.plain import as_set, frozen, is_below, is_count, is_counts, is_number, is_tuple_of, power
from anydlooks.prices import nothing_told
from anydlooks.programs import is_clean, is_set_below, is_sum
from anydlooks.quiet import least_beginnings
from anydlooks.ways import all_spots, changed_way, nested_items, program_with

_STYLES = ("apart", "lanes", "one bus")
_MOST_ASKINGS = 32


def is_source(thing):
    """Whether thing is a SOURCE."""
    if not is_tuple_of(thing, 4):
        return False
    prime, cells, inputs, blocks = thing
    if not is_number(prime) or prime not in (2, 3, 5) or not is_count(cells):
        return False
    if not is_set_below(inputs, cells) or not inputs or not isinstance(blocks, tuple) or not blocks:
        return False
    return all([_is_way(thing, way) for way in blocks]) and is_clean(_as_program(thing, _drawn))


def _is_way(source, thing):
    return isinstance(thing, tuple) and all([_is_item(source, own) for own in thing])


def _is_item(source, thing):
    prime, cells, _, blocks = source
    if is_tuple_of(thing, 3):
        return thing[0] == "set" and is_below(thing[1], cells) and is_sum(prime, cells, thing[2])
    if not is_tuple_of(thing, 2):
        return False
    word, what = thing
    if word == "renew":
        return is_below(what, cells)
    if word == "call":
        return is_below(what, len(blocks))
    if word == "many":
        return _is_way(source, what)
    are_several = isinstance(what, tuple) and 2 <= len(what) <= 4
    return word == "one" and are_several and all([_is_way(source, way) for way in what])


def _as_program(source, renewed):
    """What goes the same RUNS as a program; renewed makes the items of a "renew"."""
    blocks = [changed_way(way, lambda item: _plain_items(item, renewed)) for way in source[3]]
    return None, None, tuple(blocks)


def _plain_items(item, renewed):
    if item[0] == "call":
        return (("call", item[1], ()),)
    return renewed(item) if item[0] == "renew" else (item,)


def _drawn(item):
    """A draw for a "renew", as that makes one LINE, too."""
    return (("draw", item[1]),)


def _left_out(_):
    return ()


def _lines(source, run):
    pairs = written_out(whole_course(_as_program(source, _drawn), frozen(run)))
    return [line if line[0] == "set" else ("renew", line[1], ()) for line, _ in pairs]


def source_lines(source, run):
    """The list of the LINES of a RUN."""
    return _lines(frozen(source), run)


def cell_forms(source, run):
    """The list, for the beginning and behind each LINE, of which sums of the secrets the cells hold."""
    prime, cells, inputs, blocks = frozen(source)
    held = [tuple([int(own == cell) for own in inputs]) for cell in range(cells)]
    found = [tuple(held)]
    for word, cell, pairs in _lines((prime, cells, inputs, blocks), run):
        if word == "set":
            rows = [(held[own], factor) for own, factor in pairs]
            held[cell] = tuple([sum([row[k] * factor for row, factor in rows]) % prime for k in range(len(inputs))])
        found.append(tuple(held))
    return found


def cell_ends(source, cell):
    """The set of what sums of the secrets the cell holds at the end of some RUN."""
    source = frozen(source)
    prime, cells, inputs, _ = source
    if not is_below(cell, cells):
        raise NoRegister(cell)
    program = ((prime, (None,) * cells, ()), (), _as_program(source, _left_out)[2])
    ends = least_beginnings(program, tuple([int(own == cell) for own in range(cells)]))
    return as_set([tuple([asked[own] for own in inputs]) for asked in list(ends)])


class Compiler:
    """How a SOURCE is compiled by a style that is checked, with so many parts."""

    def __init__(self, source, many, style):
        self.prime, self.cells, self.inputs, self.blocks = source
        self.many = many
        self.style = style
        items = [item for way in self.blocks for _, item in nested_items((), way)]
        self.has_spare = "renew" in [item[0] for item in items]
        self.spare = self.cells * many

    def is_too_large(self):
        """Whether the PROGRAM has too many ASKINGS."""
        buses = self.many if self.style == "lanes" else int(self.style == "one bus")
        length = self.spare + int(self.has_spare) + buses
        return length > _MOST_ASKINGS or power(self.prime, length) > _MOST_ASKINGS

    def program(self, sorts):
        """The PROGRAM with these sorts."""
        lone = 0 if self.style == "one bus" else None
        part_buses = list(range(self.many)) if self.style == "lanes" else [lone] * self.many
        buses = part_buses * self.cells + [lone] * int(self.has_spare)
        dealt = [tuple([self._part(cell, k) for k in range(self.many)]) for cell in self.inputs]
        blocks = [changed_way(way, lambda item: self._items(item)) for way in self.blocks]
        return (self.prime, tuple(buses), sorts), tuple(dealt), tuple(blocks)

    def _part(self, cell, k):
        return cell * self.many + k

    def _items(self, item):
        """The items that come of one."""
        if item[0] == "call":
            return (("call", item[1], ()),)
        if item[0] == "renew":
            return self._renewal(item[1])
        return tuple([self._part_set(item, k) for k in range(self.many)])

    def _part_set(self, item, k):
        return "set", self._part(item[1], k), tuple([(self._part(cell, k), factor) for cell, factor in item[2]])

    def _renewal(self, cell):
        found, first = [], self._part(cell, 0)
        for k in range(1, self.many):
            own = self._part(cell, k)
            found.append(("draw", self.spare))
            found.append(("set", first, ((first, 1), (self.spare, 1))))
            found.append(("set", own, ((own, 1), (self.spare, self.prime - 1))))
        return tuple(found)


def compiled(source, sorts, many, style):
    """The PROGRAM that comes of the SOURCE with so many parts."""
    if style not in _STYLES:
        raise Unfit()
    compiler = Compiler(frozen(source), many, style)
    if compiler.is_too_large():
        raise TooMany()
    return compiler.program(frozen(sorts))


def lines_from(source, run, many):
    """The list, for each LINE, of the numbers of the compiled PROGRAM's LINES that come of it."""
    found, start = [], 0
    for line in source_lines(source, run):
        behind = start + (many if line[0] == "set" else 3 * (many - 1))
        found.append(tuple(range(start, behind)))
        start = behind
    return found


def cells_of(source, many, registers):
    """What the cells hold if the compiled PROGRAM's registers hold these RESIDUES."""
    return tuple([sum(registers[cell * many:cell * many + many]) % source[0] for cell in range(source[1])])


def least_parts(source, sorts, style, most):
    """The least number of parts with which the compiled PROGRAM withstands most."""
    if style not in _STYLES:
        raise Unfit()
    source, sorts, many = frozen(source), frozen(sorts), 2
    while True:
        compiler = Compiler(source, many, style)
        if compiler.is_too_large():
            raise CanNot()
        if nothing_told(compiler.program(sorts), most):
            return many
        many += 1


def with_renew(source, path, cell):
    """The SOURCE with one more "renew" at a spot."""
    prime, cells, inputs, blocks = frozen(source)
    path = frozen(path)
    if not is_counts(path) or path not in all_spots(blocks):
        raise NoItem(path)
    if not is_below(cell, cells):
        raise NoRegister(cell)
    return prime, cells, inputs, program_with((None, None, blocks), path, (("renew", cell),), 0)[2]
