"""ASKINGS of one RUN: what is asked behind so many LINES, and which terms are the cheapest."""

from anydlooks.cheapest import cheapest_terms, check_size, walk_and_draws
from anydlooks.courses import whole_course, written_out
from anydlooks.errors import Unfit
from anydlooks.plain import frozen
from anydlooks.residues import is_row
from anydlooks.rule import asking_length, bad_form, quiet_asking
from anydlooks.sights import run_sight


def is_asking(machine, thing):
    """Whether thing is an ASKING."""
    machine = frozen(machine)
    return is_row(thing, machine[0], asking_length(machine))


def nobody(machine):
    """Nobody's ASKING."""
    return quiet_asking(frozen(machine))


def is_bad(program, asking):
    """Whether the ASKING is a bad one."""
    return bad_form(frozen(program)[1], asking) is not None


def form_of(program, asking):
    """The FORM of a bad ASKING."""
    form = bad_form(frozen(program)[1], asking)
    if form is None:
        raise Unfit()
    return form


def _walked(program, run, terms):
    sight, terms = run_sight(frozen(program), frozen(run)), frozen(terms)
    sight.check_terms(terms)
    return walk_and_draws(sight.machine, sight.lines, terms)


def walk_of(program, run, terms):
    """The WALK of the terms."""
    return _walked(program, run, terms)[0]


def draws_asked(program, run, terms):
    """The list of what the draws are asked, in the order of the LINES."""
    return _walked(program, run, terms)[1]


def is_walk(program, run, thing):
    """Whether thing is the WALK of some heard terms, whatever it begins with."""
    sight = run_sight(frozen(program), frozen(run))
    if not isinstance(thing, tuple) or len(thing) != len(sight.lines) + 1:
        return False
    length = asking_length(sight.machine)
    if not all([is_row(own, sight.prime, length) for own in thing]):
        return False
    check_size(sight.machine, sight.lines)
    return thing[0] in cheapest_terms(sight.machine, sight.lines, thing)


def walk_terms(program, run, walk):
    """The cheapest of all heard terms with this WALK."""
    sight, walk = run_sight(frozen(program), frozen(run)), frozen(walk)
    check_size(sight.machine, sight.lines)
    if len(walk) != len(sight.lines) + 1:
        raise Unfit()
    found = cheapest_terms(sight.machine, sight.lines, walk)
    if walk[0] not in found:
        raise Unfit()
    return found[walk[0]][2]


def _all_told(program, run):
    """The LINES of the RUN and the triples (price, count, terms) of the cheapest TELLINGS, by FORM."""
    machine, dealt, _ = program
    lines = [line for line, _ in written_out(whole_course(program, run))]
    check_size(machine, lines)
    told = {}
    for asking, worth in cheapest_terms(machine, lines, None).items():
        form = bad_form(dealt, asking)
        if form is not None:
            told[form] = min(worth, told.get(form, worth))
    return lines, told


def least_terms(program, run):
    """The cheapest terms that make a TELLING with run; None if nothing tells."""
    told = _all_told(frozen(program), frozen(run))[1]
    return min(list(told.values()))[2] if told else None


def least_told(program, run):
    """The price of these; None if nothing tells."""
    told = _all_told(frozen(program), frozen(run))[1]
    return min(list(told.values()))[0] if told else None


def told_walk(program, run):
    """The WALK of these; None if nothing tells."""
    program = frozen(program)
    lines, told = _all_told(program, frozen(run))
    if not told:
        return None
    return walk_and_draws(program[0], lines, min(list(told.values()))[2])[0]


def form_prices(program, run):
    """The ascending list of the pairs of a FORM and the least price at which it is told."""
    told = _all_told(frozen(program), frozen(run))[1]
    return sorted([(form, worth[0]) for form, worth in told.items()])
