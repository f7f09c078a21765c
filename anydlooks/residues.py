"""Rows of residues modulo a prime, their spaces, and equations between them."""

from anydlooks.errors import TooMany, Unfit
from anydlooks.plain import all_rows, frozen, is_below, is_tuple_of, power


def is_row(thing, prime, length):
    """Whether thing is a row of this length."""
    return is_tuple_of(thing, length) and all([is_below(own, prime) for own in thing])


def inverse(prime, residue):
    """The residue by which the product of both is 1."""
    for other in range(prime):
        if other * residue % prime == 1:
            return other
    raise Unfit()


def row_by(prime, rows, factors, length):
    """The sum of rows, each times its factor."""
    total = [0] * length
    for row, factor in zip(rows, factors):
        if factor:
            total = [(own + factor * more) % prime for own, more in zip(total, row)]
    return tuple(total)


def product(prime, row, other):
    """The sum of the products place by place."""
    return sum([own * more for own, more in zip(row, other)]) % prime


def _scaled(prime, row, factor):
    return [own * factor % prime for own in row]


def _less(prime, row, other, factor):
    """row less factor times other."""
    return [(own - factor * more) % prime for own, more in zip(row, other)]


def _echelon(prime, rows, width):
    """The reduced rows by their first width places, and the places of their leads.

    Rows that are 0 at all of these places stand behind the others.
    """
    rest = [list(row) for row in rows]
    leads = []
    for place in range(width):
        top = len(leads)
        found = [k for k in range(top, len(rest)) if rest[k][place]]
        if not found:
            continue
        rest[top], rest[found[0]] = rest[found[0]], rest[top]
        lead = _scaled(prime, rest[top], inverse(prime, rest[top][place]))
        rest = [_less(prime, own, lead, own[place]) if own[place] else own for own in rest]
        rest[top] = lead
        leads.append(place)
    return rest, leads


def _width(rows):
    return len(rows[0]) if rows else 0


def basis(prime, rows):
    """The basis of the space of rows."""
    rest, leads = _echelon(prime, rows, _width(rows))
    return tuple([tuple(row) for row in rest[:len(leads)]])


def rank(prime, rows):
    """How many rows the basis has."""
    return len(_echelon(prime, rows, _width(rows))[1])


def _reduced(prime, row, lead_rows):
    """row less what makes it 0 at the lead of each of lead_rows, a basis."""
    rest = list(row)
    for own in lead_rows:
        factor = rest[_lead(own)]
        if factor:
            rest = _less(prime, rest, own, factor)
    return tuple(rest)


def _lead(row):
    """The first place at which row is not 0."""
    return [place for place, own in enumerate(row) if own][0]


def rest_of(prime, row, rows):
    """row less a row of the space of rows, 0 at each lead of their basis."""
    return _reduced(prime, row, basis(prime, rows))


def is_within(prime, rows, others):
    """Whether all of rows are in the space of others."""
    lead_rows = basis(prime, others)
    return not any([any(_reduced(prime, row, lead_rows)) for row in rows])


def members(prime, rows, length):
    """The set of all rows of the space of rows."""
    lead_rows = basis(prime, rows)
    if power(prime, len(lead_rows)) > 4096:
        raise TooMany()
    factors = all_rows(prime, len(lead_rows))
    return tuple(sorted([row_by(prime, lead_rows, own, length) for own in factors]))


def _traced(prime, rows):
    """The reduced rows, each with the factors by which it is a sum of rows behind it."""
    width, many = _width(rows), len(rows)
    wide = [list(row) + [int(k == own) for own in range(many)] for k, row in enumerate(rows)]
    rest, leads = _echelon(prime, wide, width)
    return [tuple(row[:width]) for row in rest], [tuple(row[width:]) for row in rest], leads


def factors_for(prime, row, rows):
    """The least factors by which the sum of rows is row."""
    reduced, traces, leads = _traced(prime, rows)
    if not rows:
        return None if any(row) else ()
    factors = [row[place] for place in leads]
    many = len(leads)
    if row_by(prime, reduced[:many], factors, len(row)) != frozen(row):
        return None
    own = row_by(prime, traces[:many], factors, len(rows))
    return _reduced(prime, own, basis(prime, traces[many:]))


def relations(prime, rows):
    """The basis of the factors by which the sum of rows is 0."""
    _, traces, leads = _traced(prime, rows)
    return basis(prime, traces[len(leads):])


def _columns(rows, length):
    return [tuple([row[place] for row in rows]) for place in range(length)]


def across(prime, rows, length):
    """The basis of the rows whose product with each of rows is 0."""
    return relations(prime, _columns(rows, length))


def common(prime, rows, others):
    """The basis of the rows that are in the spaces of both."""
    lead_rows, more = basis(prime, rows), basis(prime, others)
    length = max(_width(lead_rows), _width(more))
    joints = relations(prime, lead_rows + more)
    many = len(lead_rows)
    return basis(prime, [row_by(prime, lead_rows, own[:many], length) for own in joints])


def solution(prime, rows, goals, length):
    """The least row whose product with each of rows is its goal."""
    if not length:
        return None if any(goals) else ()
    return factors_for(prime, goals, _columns(rows, length))


def refusal(prime, rows, goals):
    """The least factors by which the sum of rows is 0 and that of goals is 1."""
    joints = relations(prime, rows)
    found = [own for own in joints if product(prime, own, goals)]
    if not found:
        return None
    first = found[0]
    unit = _scaled(prime, first, inverse(prime, product(prime, first, goals)))
    silent = [_less(prime, own, unit, product(prime, own, goals)) for own in joints]
    return _reduced(prime, unit, basis(prime, silent))
