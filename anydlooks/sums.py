"""Which sums of the secrets are told at which price, for all RUNS, alone and together."""

from anydlooks.closures import is_shield_of, shield_of
from anydlooks.errors import TooMany
from anydlooks.joint import Joint
from anydlooks.marks import price_of_looks
from anydlooks.moves import full_view
from anydlooks.plain import as_set, frozen
from anydlooks.prices import cheapest_found, told_prices
from anydlooks.residues import basis
from anydlooks.rule import bad_form
from anydlooks.traces import traced
from anydlooks.tracks import told_form, told_together


def _prices(program, most):
    program = frozen(program)
    return told_prices(program, full_view(program[0]), most)


def form_price(program, form):
    """The price of the FORM; None if there is no TELLING of it."""
    return _prices(program, None).get(frozen(form))


def priced_forms(program):
    """The ascending list of the pairs (FORM, price)."""
    return list(_prices(program, None).items())


def forms_to(program, most):
    """The set of the FORMS of price most at most."""
    return tuple(list(_prices(program, most)))


def form_telling(program, form, most):
    """A TELLING of the FORM, of price most at most; None if there is none."""
    program = frozen(program)
    joint, first = cheapest_found(program, full_view(program[0]), most, frozen(form))
    if first is None:
        return None
    run, marks = traced(joint, first[1])
    return run, tuple([(mark, residues[0]) for mark, residues in marks])


def is_form_telling(program, form, most, thing):
    """Whether thing is a TELLING of the FORM, of price most at most."""
    program = frozen(program)
    if told_form(program, thing) != frozen(form):
        return False
    return price_of_looks(program[0], [mark for mark, _ in thing[1]]) <= most


def form_shield(program, form, most):
    """The least tables, if they are a shield of the FORM."""
    return shield_of(frozen(program), most, frozen(form))


def is_form_shield(program, form, most, thing):
    """Whether thing is a shield of the FORM to most."""
    return is_shield_of(frozen(program), most, frozen(form), thing)


def _joint(program, forms, most):
    """The Joint of as many tracks as forms, and what is first found to tell them; None without."""
    joint = Joint(program, full_view(program[0]), len(forms), most)
    wanted = 0
    for state in range(joint.digits.size):
        rows = joint.digits.rows(state)
        if all([bad_form(program[1], own) == form for own, form in zip(rows, forms)]):
            wanted |= 1 << state
    return joint, joint.first(wanted)


def together(program, forms, most):
    """The least price of a BUNDLE of the forms; None if it is above most, or there is none."""
    first = _joint(frozen(program), frozen(forms), most)[1]
    return None if first is None else first[0]


def bundle(program, forms, most):
    """A BUNDLE of the forms of the least price; None if it is above most, or there is none."""
    joint, first = _joint(frozen(program), frozen(forms), most)
    if first is None:
        return None
    run, marks = traced(joint, first[1])
    return run, tuple([mark for mark, _ in marks])


def is_bundle(program, forms, most, thing):
    """Whether thing is a BUNDLE of the forms, of price most at most."""
    return told_together(frozen(program), frozen(forms), most, thing)


def learnt(program, most):
    """The list of the bases of the greatest spaces of FORMS that LOOKS of one RUN tell."""
    program = frozen(program)
    prime, sharings = program[0][0], len(program[1])
    if sharings > 2:
        raise TooMany()
    forms = list(_prices(program, most))
    whole = basis(prime, forms)
    if len(whole) == 2 and together(program, whole, most) is not None:
        return [whole]
    return sorted(as_set([basis(prime, [form]) for form in forms])) or [()]
