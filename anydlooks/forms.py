"""What lies in registers and on buses, and what MARKS show, as sums of the sources."""

from anydlooks.errors import NoLine, Unfit
from anydlooks.marks import fits_line, has_line, marks_of_line, price_of_looks
from anydlooks.plain import as_set, frozen, is_below
from anydlooks.residues import product
from anydlooks.sights import run_sight
from anydlooks.tracks import told_form


def _sight(program, run):
    return run_sight(frozen(program), frozen(run))


def sources(program, run):
    """The tuple of the sources: the parts, then the draws."""
    return _sight(program, run).sources


def written(program, run):
    """The tuple of the spreads of what the LINES write."""
    return tuple(_sight(program, run).writes)


def spreads_at(program, run, number):
    """The spreads of what each register, then each bus, holds ahead of LINE number."""
    states = _sight(program, run).states
    if not is_below(number, len(states)):
        raise NoLine(number)
    return states[number]


def is_mark(program, run, thing):
    """Whether thing is a MARK of the RUN."""
    sight = _sight(program, run)
    if not has_line(thing, len(sight.lines)):
        return False
    return fits_line(sight.machine, sight.lines[thing[0]], thing)


def marks_at(program, run, number):
    """The set of the MARKS of LINE number."""
    sight = _sight(program, run)
    if not is_below(number, len(sight.lines)):
        raise NoLine(number)
    line = sight.lines[number]
    return marks_of_line(sight.machine, line, number)


def is_looks(program, run, thing):
    """Whether thing is LOOKS of the RUN."""
    return _sight(program, run).are_looks(thing)


def looks_of(terms):
    """The set of the marks of the terms."""
    return as_set([mark for mark, _ in frozen(terms)])


def price_of(machine, looks):
    """The price of LOOKS, of whatever RUN."""
    return price_of_looks(frozen(machine), frozen(looks))


def shown(program, run, mark):
    """The spread of what the mark shows."""
    sight, mark = _sight(program, run), frozen(mark)
    sight.check_looks((mark,))
    return sight.shown(mark)


def sum_shown(program, run, terms):
    """The spread of the sum of RESIDUE times what the mark shows."""
    sight, terms = _sight(program, run), frozen(terms)
    sight.check_terms(terms)
    return sight.sum_shown(terms)


def row_form(program, run, row):
    """What the spread is at the parts of each SHARING, if it is a sum of the secrets; None otherwise."""
    sight = _sight(program, run)
    if any([row[place] for place, own in enumerate(sight.sources) if own[0] == "draw"]):
        return None
    at_parts = {own[1]: row[place] for place, own in enumerate(sight.sources) if own[0] == "part"}
    if any([at_parts[slot] != at_parts[own[0]] for own in sight.dealt for slot in own]):
        return None
    return tuple([at_parts[own[0]] for own in sight.dealt])


def is_telling(program, thing):
    """Whether thing is a TELLING, of whatever RUN."""
    return told_form(frozen(program), thing) is not None


def form_told(program, telling):
    """The FORM of the TELLING."""
    form = told_form(frozen(program), frozen(telling))
    if form is None:
        raise Unfit()
    return form


def played(program, run, values):
    """The tuple of the RESIDUES that the LINES write."""
    sight = _sight(program, run)
    return tuple([product(sight.prime, row, values) for row in sight.writes])


def seen_by(program, run, looks, values):
    """The tuple of the RESIDUES that the marks show."""
    sight, looks = _sight(program, run), frozen(looks)
    sight.check_looks(looks)
    return tuple([product(sight.prime, row, values) for row in sight.all_shown(looks)])


def secrets_of(program, run, values):
    """The tuple of the secrets."""
    sight = _sight(program, run)
    return tuple([product(sight.prime, row, values) for row in sight.secret_rows()])
