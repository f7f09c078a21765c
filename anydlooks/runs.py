"""RUNS: their LINES, what is chosen in them, and which there are."""

from anydlooks.courses import followed, whole_course, written_out
from anydlooks.errors import NoLine, Unfit
from anydlooks.leastruns import all_runs, finished_run, least_to, least_runs
from anydlooks.plain import frozen, is_below
from anydlooks.ways import found_item


def is_run(program, thing):
    """Whether thing is a RUN."""
    course = followed(frozen(program), thing)
    return course is not None and course.wanted is None


def _pairs(program, run):
    return written_out(whole_course(frozen(program), frozen(run)))


def lines_of(program, run):
    """The tuple of the LINES of the RUN."""
    return tuple([line for line, _ in _pairs(program, run)])


def line_paths(program, run):
    """For each LINE the path of its ITEM, of the call for a put back."""
    return tuple([path for _, path in _pairs(program, run)])


def choices_of(program, run):
    """The triples (path, number, lines) of what is chosen, in order."""
    return tuple(whole_course(frozen(program), frozen(run)).choices)


def _told(program, row):
    course = followed(program, row)
    if course is None:
        raise Unfit()
    return course


def asked(program, row):
    """None if row is a RUN; how many WAYS the "one" has that comes next, 0 for a "many"."""
    wanted = _told(frozen(program), frozen(row)).wanted
    if wanted is None:
        return None
    return len(wanted[1][1]) if wanted[1][0] == "one" else 0


def sure_lines(program, row):
    """How many LINES lie ahead of what comes next, or all of the RUN."""
    return _told(frozen(program), frozen(row)).lines


def finished(program, row):
    """The least RUN told by row."""
    return finished_run(frozen(program), frozen(row))


def least_run(program):
    """The least RUN."""
    return least_runs(frozen(program)[2])[0][2]


def least_run_at(program, path):
    """The least RUN that comes to the ITEM at path."""
    program, path = frozen(program), frozen(path)
    found_item(program, path)
    return least_to(program[2], path)[2]


def runs_to(program, many):
    """The list of all RUNS with at most many LINES, lesser ones first."""
    return [run for _, _, run in all_runs(frozen(program), many)]


def run_counts(program, many):
    """The list, for 0 to many, of how many RUNS have just so many LINES."""
    counts = [0] * (many + 1)
    for lines, _, _ in all_runs(frozen(program), many):
        counts[lines] += 1
    return counts


def lies(program, run, number):
    """For each register, then each bus, the LINE that wrote last what lies there ahead of LINE number."""
    program = frozen(program)
    lines = lines_of(program, run)
    if not is_below(number, len(lines) + 1):
        raise NoLine(number)
    buses = program[0][1]
    last = [None] * len(buses)
    last_on = [None] * (max([-1] + [bus for bus in buses if bus is not None]) + 1)
    for place in range(number):
        slot = lines[place][1]
        last[slot] = place
        if buses[slot] is not None:
            last_on[buses[slot]] = place
    return tuple(last + last_on)
