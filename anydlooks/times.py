"""What is told if a "many" of block 0 is gone round just so many times, for all numbers."""

from anydlooks.blocks import BY_ALL
from anydlooks.courses import followed
from anydlooks.errors import TooMany, Unfit
from anydlooks.marks import price_of_looks
from anydlooks.moves import full_view
from anydlooks.plain import frozen, is_count, is_number, is_tuple_of
from anydlooks.prices import Bests
from anydlooks.rounds import Rounds, row_by_paper
from anydlooks.search import telling_of
from anydlooks.seasons import form_of_prices, is_right_form, told_numbers
from anydlooks.tracks import told_form
from anydlooks.ways import calls_in, found_item, program_with


def _checked(program, path):
    """The program and the place of its "many"; raises NoItem(path), then Unfit()."""
    program, path = frozen(program), frozen(path)
    item = found_item(program, path)
    if len(path) != 2 or path[0] or item[0] != "many":
        raise Unfit()
    if any([0 in calls_in(way) for way in program[2]]):
        raise Unfit()
    return program, path[1]


def _with_paper(program, path):
    """The Rounds and a right paper of theirs; raises TooMany(), too."""
    program, place = _checked(program, path)
    rounds = Rounds(program, place)
    paper = rounds.paper()
    if paper is None:
        raise TooMany()
    return rounds, paper


def price_times(program, path, many):
    """The price at many."""
    rounds, paper = _with_paper(program, path)
    return rounds.price(row_by_paper(paper, many))


def times_prices(program, path, many):
    """The list of the prices at 0 to many."""
    program, place = _checked(program, path)
    rounds = Rounds(program, place)
    return [rounds.price(rounds.row_at(number)) for number in range(many + 1)]


def times_form(program, path):
    """The right TIMES FORM with the shortest slopes, then the shortest prices."""
    rounds, paper = _with_paper(program, path)
    return form_of_prices(rounds, paper)


def is_times_form(program, path, thing):
    """Whether thing is a right TIMES FORM."""
    rounds, paper = _with_paper(program, path)
    if not is_tuple_of(thing, 2):
        return False
    prices, slopes = thing
    if not isinstance(prices, tuple) or not all([own is None or is_number(own) for own in prices]):
        return False
    if not isinstance(slopes, tuple) or not all([is_count(own) for own in slopes]):
        return False
    return 0 < len(slopes) <= len(prices) and is_right_form(form_of_prices(rounds, paper), thing)


def times_paper(program, path):
    """A right TIMES PAPER."""
    return _with_paper(program, path)[1]


def is_times_paper(program, path, thing):
    """Whether thing is a right TIMES PAPER."""
    program, place = _checked(program, path)
    if not is_tuple_of(thing, 2) or not all([isinstance(own, tuple) for own in thing]):
        return False
    rows, slopes = thing
    if not 0 < len(slopes) <= len(rows):
        return False
    rounds = Rounds(program, place)
    if not all([is_tuple_of(own, rounds.many) for own in rows + slopes]):
        return False
    if not all([own is None or is_number(own) for row in rows for own in row]):
        return False
    if not all([is_number(own) for row in slopes for own in row]):
        return False
    return rounds.is_right(rows, slopes)


def told_times(program, path, most):
    """For which numbers the price is most at most: a triple (start, period, numbers)."""
    rounds, paper = _with_paper(program, path)
    return told_numbers(form_of_prices(rounds, paper), most)


def telling_times(program, path, many):
    """A TELLING of the price at many, its RUN going round many times; None if there is none."""
    program, place = _checked(program, path)
    item = ("times", program[2][0][place][1], many)
    bests = Bests(program_with(program, (0, place), (item,), 1), full_view(program[0]), None, BY_ALL, False)
    best = bests.best_told(None)
    return None if best is None else telling_of(best)


def is_telling_times(program, path, many, thing):
    """Whether thing is a TELLING of the price at many, its RUN going round many times."""
    program, place = _checked(program, path)
    if told_form(program, thing) is None:
        return False
    numbers = [number for own, number, _ in followed(program, thing[0]).choices if own == (0, place)]
    if numbers != [many]:
        return False
    rounds = Rounds(program, place)
    price = price_of_looks(program[0], [mark for mark, _ in thing[1]])
    return price == rounds.price(rounds.row_at(many))


def unrolled(program, path, many):
    """The PROGRAM with the ITEMS of the WAY many times in the place of the "many"."""
    program, place = _checked(program, path)
    return program_with(program, (0, place), program[2][0][place][1] * many, 1)
