"""One judge of CLAIMS: whether they stand, PAPERS against them, and REASONS for them."""

from anydlooks.claims import claim_of
from anydlooks.errors import Unfit
from anydlooks.plain import frozen


def is_claim(thing):
    """Whether thing is a CLAIM."""
    return claim_of(thing) is not None


def _checked(claim):
    own = claim_of(frozen(claim))
    if own is None:
        raise Unfit()
    return own


def stands(claim):
    """Whether it is so."""
    return _checked(claim).is_so()


def paper_against(claim):
    """A PAPER against the CLAIM; None if it stands."""
    own = _checked(claim)
    return None if own.is_so() else own.paper()


def is_paper_against(claim, thing):
    """Whether thing is a PAPER against the CLAIM."""
    return _checked(claim).is_paper(thing)


def reason_for(claim):
    """A REASON for the CLAIM; None if it does not stand."""
    own = _checked(claim)
    return own.reason() if own.is_so() else None


def is_reason_for(claim, thing):
    """Whether thing is a REASON for the CLAIM."""
    return _checked(claim).is_reason(thing)


def first_fallen(claims):
    """The number of the first CLAIM that does not stand, and a PAPER against it; None if all stand."""
    for number, own in enumerate([_checked(claim) for claim in frozen(claims)]):
        if not own.is_so():
            return number, own.paper()
    return None
