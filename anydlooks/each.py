"""What is told if so much may be looked at in each turn, however many turns there are."""

from anydlooks.blocks import BY_LINES, BY_PRICE, Pieces
from anydlooks.closures import are_closed_pairs, relations_of
from anydlooks.courses import whole_course
from anydlooks.errors import Unfit
from anydlooks.moves import full_view
from anydlooks.plain import frozen
from anydlooks.prices import Bests, least_told_price
from anydlooks.search import telling_of
from anydlooks.tracks import Track, told_form
from anydlooks.turning import Turns


def turns(program, run):
    """The tuple of the turns of the LINES."""
    course = whole_course(frozen(program), frozen(run))
    own = Turns(course)
    return tuple([own.of_line(number) for number in range(course.lines)])


def turn_count(program, run):
    """How many turns there are."""
    return Turns(whole_course(frozen(program), frozen(run))).count


def height(program, run, looks):
    """The greatest sum of the prices of the looks at the LINES of one turn."""
    program, looks = frozen(program), frozen(looks)
    course = whole_course(program, frozen(run))
    if not isinstance(looks, tuple) or not Track(program[0], course).are_looks(looks):
        raise Unfit()
    return Turns(course).height(looks, program[0])


def _withstands(program, most):
    return not Bests(program, full_view(program[0]), most, BY_PRICE, True).told()


def least_height(program):
    """The least height of LOOKS that tell in some RUN; None if none do in any."""
    program = frozen(program)
    high = least_told_price(program, full_view(program[0]), None)
    if high is None:
        return None
    # What all turns cost together is enough for each; mostly far less is, so that is tried first.
    low, step = 0, 1
    while low + step <= high:
        if not _withstands(program, low + step - 1):
            high = low + step - 1
            break
        low += step
        step *= 2
    while low < high:
        middle = (low + high) // 2
        if _withstands(program, middle):
            low = middle + 1
        else:
            high = middle
    return low


def withstands_each(program, most):
    """Whether for all RUNS no LOOKS of height most at most tell."""
    return _withstands(frozen(program), most)


def _pieces(program, most):
    return Pieces(program[0], full_view(program[0]), most, BY_PRICE, True)


def reach(program, most):
    """The least closed REACH."""
    program = frozen(program)
    pieces = _pieces(program, most)
    return relations_of(pieces, pieces.least(program[2]))


def is_reach(program, most, thing):
    """Whether thing is a closed REACH."""
    program = frozen(program)
    return are_closed_pairs(program, _pieces(program, most), thing)


def each_telling(program, most):
    """A TELLING whose marks are LOOKS of height most at most; None if there is none."""
    program = frozen(program)
    best = Bests(program, full_view(program[0]), most, BY_LINES, True).best_told(None)
    return None if best is None else telling_of(best)


def is_each_telling(program, most, thing):
    """Whether thing is a TELLING whose marks are LOOKS of height most at most."""
    program = frozen(program)
    if told_form(program, thing) is None:
        return False
    own = Turns(whole_course(program, thing[0]))
    return own.height([mark for mark, _ in thing[1]], program[0]) <= most
