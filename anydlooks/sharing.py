"""Which registers hold parts at the end of all RUNS, and items that deal secrets anew or add them up."""

from anydlooks.courses import whole_course
from anydlooks.errors import CanNot, NoRegister, Unfit
from anydlooks.plain import all_rows, as_set, frozen, is_below, is_tuple_of
from anydlooks.quiet import least_beginnings
from anydlooks.residues import is_row
from anydlooks.rule import alike_at_parts
from anydlooks.sights import bus_count
from anydlooks.tracks import Track, track_of


def _behind(program, row):
    """What is asked behind a RUN, if a sum of registers is."""
    return row + (0,) * bus_count(program[0])


def _settled(program, asked):
    """The tuple by which a sum is settled that asks this at the beginning; None if it is free."""
    return None if asked is None else alike_at_parts(program[1], asked)


def _ending(program, track, row):
    return _settled(program, track.quiet_from(_behind(program, row)))


def end_form(program, run, row):
    """The tuple by which the sum of the row is settled at the end of the RUN; None if it is free."""
    program = frozen(program)
    return _ending(program, Track(program[0], whole_course(program, frozen(run))), frozen(row))


class Ends:
    """How sums of rows can end, for all RUNS."""

    def __init__(self, program):
        self.program = program
        self.known = {}

    def of(self, row):
        """A dict that tells by endings, None for free, the triple (lines, count, run) of the least RUN."""
        if row not in self.known:
            found = {}
            for asked, best in least_beginnings(self.program, _behind(self.program, row)).items():
                ending = _settled(self.program, asked)
                if ending not in found or best < found[ending]:
                    found[ending] = best
            self.known[row] = found
        return self.known[row]


def _told(ends):
    """The tuples among endings, ascending."""
    return sorted([own for own in list(ends) if own is not None])


def end_forms(program, row):
    """The set of the tuples by which the sum is settled in some RUN, and whether it is free in some."""
    ends = Ends(frozen(program)).of(frozen(row))
    return tuple(_told(ends)), None in ends


def end_run(program, row, ending):
    """The least RUN in which the sum of the row ends so."""
    ends, ending = Ends(frozen(program)).of(frozen(row)), frozen(ending)
    if ending not in ends:
        raise CanNot()
    return ends[ending][2]


def _check_registers(program, numbers):
    """Raises NoRegister(number) for the first one that is none."""
    for slot in numbers:
        if not is_below(slot, len(program[0][1])):
            raise NoRegister(slot)


def _rows_at(program, places):
    """The list of the rows that are not alike at places and 0 elsewhere, ascending, and the row of 1s."""
    slots, unlike = list(range(len(program[0][1]))), []
    for row in all_rows(program[0][0], len(slots)):
        at_places = [row[slot] for slot in places]
        if len(set(at_places)) > 1 and not any([row[slot] for slot in slots if slot not in places]):
            unlike.append(row)
    return unlike, tuple([int(slot in places) for slot in slots])


def _bar(ends, places):
    """The bar that parts_bar tells; None if places hold parts at the end."""
    unlike, ones = _rows_at(ends.program, places)
    for row in unlike:
        settled = [best for ending, best in ends.of(row).items() if ending is not None]
        if settled:
            return (min(settled)[2],), row
    found = ends.of(ones)
    bad = [best for ending, best in found.items() if ending is None or not any(ending)]
    if bad:
        return (min(bad)[2],), ones
    forms = _told(found)
    if len(forms) == 1:
        return None
    return (found[forms[0]][2], found[forms[1]][2]), ones


def are_parts(program, places):
    """Whether the registers of places hold parts at the end."""
    program, places = frozen(program), frozen(places)
    _check_registers(program, places)
    return _bar(Ends(program), places) is None


def part_sets(program):
    """The set of all sets of registers that hold parts at the end."""
    ends, sets = Ends(frozen(program)), [()]
    for slot in range(len(ends.program[0][1])):
        sets.extend([(*own, slot) for own in list(sets)])
    return as_set([own for own in sets if len(own) > 1 and _bar(ends, own) is None])


def parts_bar(program, places):
    """A bar, as the document says which one; None if places hold parts at the end."""
    program, places = frozen(program), frozen(places)
    _check_registers(program, places)
    return _bar(Ends(program), places)


def is_parts_bar(program, places, thing):
    """Whether thing is a bar."""
    program, places = frozen(program), frozen(places)
    _check_registers(program, places)
    if not is_tuple_of(thing, 2) or not isinstance(thing[0], tuple) or len(thing[0]) not in (1, 2):
        return False
    runs, row = thing
    if not is_row(row, program[0][0], len(program[0][1])):
        return False
    unlike, ones = _rows_at(program, places)
    tracks = [track_of(program, run) for run in runs]
    if None in tracks or row not in (*unlike, ones):
        return False
    endings = [_ending(program, track, row) for track in tracks]
    if len(endings) == 2:
        are_forms = all([own is not None and any(own) for own in endings])
        return row == ones and are_forms and endings[0] != endings[1]
    if row == ones:
        return endings[0] is None or not any(endings[0])
    return endings[0] is not None


def _check_apart(program, places, others):
    _check_registers(program, (*places, *others))
    if any([slot in others for slot in places]):
        raise Unfit()


def _with_items(program, items):
    """The program with items behind all others of block 0."""
    return program[0], program[1], (program[2][0] + tuple(items), *program[2][1:])


def dealt_anew(program, places, others, style):
    """The PROGRAM with items that deal to others what places add up to."""
    program, places, others = frozen(program), frozen(places), frozen(others)
    _check_apart(program, places, others)
    last, less = others[-1], program[0][0] - 1
    items = [("draw", slot) for slot in others[:-1]]
    taken, given = [(slot, less) for slot in others[:-1]], [(slot, 1) for slot in places]
    if style == "at once":
        items.append(("set", last, tuple(sorted(taken + given))))
    elif style == "chain":
        items.append(("set", last, tuple(taken)))
        items.extend([("set", last, tuple(sorted([(last, 1), own]))) for own in given])
    else:
        raise Unfit()
    return _with_items(program, items)


def added(program, places, others, factor):
    """The PROGRAM with items that add to places, place by place, others times factor."""
    program, places, others = frozen(program), frozen(places), frozen(others)
    _check_apart(program, places, others)
    if len(places) != len(others):
        raise Unfit()
    pairs = list(zip(places, others))
    return _with_items(program, [("set", slot, tuple(sorted([(slot, 1), (own, factor)]))) for slot, own in pairs])
