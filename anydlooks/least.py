"""Least prices and least RUNS at which anything is told, and what is never told."""

from anydlooks.askings import least_terms
from anydlooks.blocks import BY_ALL, BY_LINES, MANY
from anydlooks.cheapest import check_size
from anydlooks.closures import are_closed_relations, has_telling, is_quiet, least_relations_of
from anydlooks.errors import CanNot, NoBlock
from anydlooks.moves import full_view
from anydlooks.plain import frozen, is_below
from anydlooks.prices import Bests, least_told_price
from anydlooks.rule import bad_form, quiet_asking


def least_price(program):
    """The least price of a TELLING, for all RUNS; None if there is none."""
    program = frozen(program)
    return least_told_price(program, full_view(program[0]), None)


def never_told(program):
    """Whether there is no TELLING of any RUN, at whatever price."""
    return least_price(program) is None


def least_relations(program):
    """The least RELATIONS."""
    program = frozen(program)
    return least_relations_of(program, full_view(program[0]))


def are_relations(program, thing):
    """Whether thing is a tuple with a RELATION for each block, and closed."""
    program = frozen(program)
    return are_closed_relations(program, full_view(program[0]), thing)


def never_paper(program):
    """The least RELATIONS, if block 0 tells nothing in them."""
    program = frozen(program)
    relations = least_relations_of(program, full_view(program[0]))
    if has_telling(program, relations[0]):
        raise CanNot()
    return relations


def is_never_paper(program, thing):
    """Whether thing is closed RELATIONS in which block 0 tells nothing."""
    program = frozen(program)
    return is_quiet(program, full_view(program[0]), thing)


def _bests(program, most, kind):
    return Bests(program, full_view(program[0]), most, kind, False)


def _with_least_terms(program, best):
    return best[0][3], least_terms(program, best[0][3])


def _has_telling(program, most):
    """Whether there is a TELLING to most; raises TooMany() if least_terms does for whatever RUN has it."""
    found = least_told_price(program, full_view(program[0]), most) is not None
    if found:
        check_size(program[0], ())
    return found


def least_telling(program, most):
    """The least RUN that has a TELLING of price most at most, with its least terms; None without."""
    program = frozen(program)
    if not _has_telling(program, most):
        return None
    return _with_least_terms(program, _bests(program, most, BY_LINES).best_told(None))


def cheapest_telling(program):
    """The least RUN that has a TELLING of the least price, with its least terms; None without."""
    program = frozen(program)
    if not _has_telling(program, None):
        return None
    return _with_least_terms(program, _bests(program, None, BY_ALL).best_told(None))


def _steps(program, most):
    """The list of the pairs (price, lines) of prices with which fewer LINES are needed than with lesser ones."""
    found, quiet = [], quiet_asking(program[0])
    for key, price, asking in _bests(program, most, BY_LINES).row(0, quiet):
        if bad_form(program[1], asking) is not None:
            found.append((price, key // MANY))
    steps = []
    for price, lines in sorted(found):
        if not steps or lines < steps[-1][1]:
            steps.append((price, lines))
    return steps


def fewest_lines(program, most):
    """How many LINES the RUN of least_telling has; None without."""
    steps = _steps(frozen(program), most)
    return steps[-1][1] if steps else None


def line_steps(program, most):
    """The set of the pairs (price, lines), one for each price that spares LINES."""
    return tuple(_steps(frozen(program), most))


def run_between(program, number, ahead, behind, most):
    """The least RUN of the block over which terms of price most at most ask ahead, behind asked behind it."""
    program = frozen(program)
    if not is_below(number, len(program[2])):
        raise NoBlock(number)
    best = _bests(program, most, BY_LINES).best(number, frozen(behind), {frozen(ahead): True})
    return None if best is None else best[0][3]
