"""The chances of what LOOKS show in one RUN, and what they tell of the secrets."""

from anydlooks.errors import CanNot, TooMany
from anydlooks.plain import all_rows, as_set, frozen, power
from anydlooks.plans import checked_plan, is_plan, ways_of
from anydlooks.residues import across, basis, common, factors_for, is_row, product, rank, row_by, solution
from anydlooks.sights import run_sight


def _seen(program, run, looks):
    """The Sight of the RUN, the looks, and the spreads of what they show."""
    sight, looks = run_sight(frozen(program), frozen(run)), frozen(looks)
    sight.check_looks(looks)
    return sight, looks, sight.all_shown(looks)


def _form_row(sight, form):
    """The spread of the sum for which a FORM stands."""
    return row_by(sight.prime, sight.secret_rows(), form, len(sight.sources))


def _tell(sight, rows):
    """Whether what spreads stand for hangs on the secrets."""
    return _free_rank(sight, rows) < rank(sight.prime, rows)


def _free_rank(sight, rows):
    """How many of the spreads are even and free of one another and of the secrets."""
    secrets = sight.secret_rows()
    return rank(sight.prime, secrets + rows) - len(secrets)


def tells(program, run, looks):
    """Whether the looks tell."""
    sight, _, rows = _seen(program, run, looks)
    return _tell(sight, rows)


def told_forms(program, run, looks):
    """The basis of the rows of RESIDUES that are FORMS which the looks tell."""
    sight, _, rows = _seen(program, run, looks)
    sums = common(sight.prime, rows, sight.secret_rows())
    places = [sight.sources.index(("part", own[0])) for own in sight.dealt]
    return basis(sight.prime, [tuple([row[place] for place in places]) for row in sums])


def telling_by(program, run, looks, form):
    """A TELLING of the form by marks of looks."""
    sight, looks, rows = _seen(program, run, looks)
    factors = factors_for(sight.prime, _form_row(sight, form), rows)
    if factors is None:
        raise CanNot()
    return frozen(run), tuple([(mark, factor) for mark, factor in zip(looks, factors) if factor])


def cover(program, run, looks):
    """A COVER of the looks; None if there is none."""
    sight, _, rows = _seen(program, run, looks)
    found = []
    for number in range(len(sight.dealt)):
        goals = [int(own == number) for own in range(len(sight.dealt))] + [0] * len(rows)
        row = solution(sight.prime, sight.secret_rows() + rows, goals, len(sight.sources))
        if row is None:
            return None
        found.append(row)
    return tuple(found)


def is_cover(program, run, looks, thing):
    """Whether thing is a COVER of the looks."""
    sight, _, rows = _seen(program, run, looks)
    if not isinstance(thing, tuple) or len(thing) != len(sight.dealt):
        return False
    if not all([is_row(own, sight.prime, len(sight.sources)) for own in thing]):
        return False
    for number, values in enumerate(thing):
        sums = _all_products(sight.prime, sight.secret_rows(), values)
        if sums != tuple([int(own == number) for own in range(len(sums))]):
            return False
    return not any([product(sight.prime, own, row) for own in thing for row in rows])


def rank_shown(program, run, looks):
    """The number r such that p to the power r tuples are shown for each tuple of secrets."""
    sight, _, rows = _seen(program, run, looks)
    return _free_rank(sight, rows)


def outcomes(program, run, looks, secrets):
    """The set of the tuples that can be shown with these secrets."""
    sight, _, rows = _seen(program, run, looks)
    if power(sight.prime, _free_rank(sight, rows)) > 1024:
        raise TooMany()
    prime, length = sight.prime, len(sight.sources)
    start = _all_products(prime, rows, solution(prime, sight.secret_rows(), secrets, length))
    moves = [_all_products(prime, rows, own) for own in across(prime, sight.secret_rows(), length)]
    moves = basis(prime, moves)
    sums = [row_by(prime, moves, own, len(rows)) for own in all_rows(prime, len(moves))]
    return tuple(sorted([row_by(prime, (start, own), (1, 1), len(rows)) for own in sums]))


def _all_products(prime, rows, values):
    return tuple([product(prime, row, values) for row in rows])


def _chance(sight, rows, secrets, residues):
    """The chance that the spreads stand for these residues."""
    goals = [*secrets, *residues]
    if solution(sight.prime, sight.secret_rows() + rows, goals, len(sight.sources)) is None:
        return 0, 1
    return 1, power(sight.prime, _free_rank(sight, rows))


def chance(program, run, looks, secrets, residues):
    """The chance of showing just these residues with these secrets."""
    sight, _, rows = _seen(program, run, looks)
    return _chance(sight, rows, secrets, residues)


def secrets_left(program, run, looks, residues):
    """The set of the tuples of secrets with which these residues can be shown."""
    sight, _, rows = _seen(program, run, looks)
    prime, length = sight.prime, len(sight.sources)
    values = solution(prime, rows, residues, length)
    if values is None:
        return ()
    start = _all_products(prime, sight.secret_rows(), values)
    moves = [_all_products(prime, sight.secret_rows(), own) for own in across(prime, rows, length)]
    moves = basis(prime, moves)
    sums = [row_by(prime, moves, own, len(start)) for own in all_rows(prime, len(moves))]
    return tuple(sorted([row_by(prime, (start, own), (1, 1), len(start)) for own in sums]))


def least_tellers(program, run, looks):
    """The list of the sets of some of looks that tell while no smaller set of their marks does."""
    sight, looks, rows = _seen(program, run, looks)
    if len(looks) > 10:
        raise TooMany()
    found = []
    # Smaller sets come first, so what holds a set that was found is not least.
    for choice in sorted(all_rows(2, len(looks)), key=sum):
        if any([_holds(choice, other) for other in found]):
            continue
        if _tell(sight, [row for row, own in zip(rows, choice) if own]):
            found.append(choice)
    return sorted([_chosen(looks, own) for own in found])


def _chosen(looks, choice):
    return tuple([mark for mark, own in zip(looks, choice) if own])


def _holds(choice, other):
    """Whether what other chooses is chosen by choice, too."""
    return all([own >= more for own, more in zip(choice, other)])


def is_look_plan(program, run, thing):
    """Whether thing is a LOOK PLAN of the RUN."""
    return is_plan(run_sight(frozen(program), frozen(run)), thing)


def plan_chances(program, run, plan, secrets):
    """The set of the pairs (way, chance) of the ways of the plan that can come."""
    sight = run_sight(frozen(program), frozen(run))
    found = []
    for marks, way in ways_of(checked_plan(sight, frozen(plan))):
        own = _chance(sight, sight.all_shown(marks), secrets, way)
        if own[0]:
            found.append((way, own))
    return as_set(found)


def plan_tells(program, run, plan):
    """Whether the chances of the ways of the plan hang on the secrets."""
    sight = run_sight(frozen(program), frozen(run))
    for marks, way in ways_of(checked_plan(sight, frozen(plan))):
        rows = sight.all_shown(marks)
        if _tell(sight, rows) and solution(sight.prime, rows, way, len(sight.sources)) is not None:
            return True
    return False
