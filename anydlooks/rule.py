"""The rule by which ASKINGS go through a LINE, told backwards.

What is seen at a LINE is a tuple (put, turn, passed, added): the RESIDUES of terms at its
marks, and for a read the tuple of its row's RESIDUES times that of the mark, or ().
"""

from anydlooks.marks import price_of_word
from anydlooks.plain import all_rows
from anydlooks.residues import inverse
from anydlooks.sights import bus_count

NOTHING_SEEN = (0, 0, 0, ())


def asking_length(machine):
    """How many RESIDUES an ASKING has."""
    return len(machine[1]) + bus_count(machine)


def quiet_asking(machine):
    """Nobody's ASKING."""
    return (0,) * asking_length(machine)


def ahead_of(machine, line, behind, seen):
    """The ASKING ahead of the LINE, and what is asked of what it writes."""
    prime, slot = machine[0], line[1]
    put, turn, passed, added = seen
    wanted = behind[slot] + put + turn + passed
    ahead = list(behind)
    bus = machine[1][slot]
    if bus is not None:
        place = len(machine[1]) + bus
        wanted += behind[place]
        ahead[place] = (0 - passed) % prime
    ahead[slot] = (0 - turn) % prime
    if line[0] == "set":
        for own, factor in line[2]:
            ahead[own] = (ahead[own] + factor * wanted) % prime
        for pair, more in zip(line[2], added):
            ahead[pair[0]] = (ahead[pair[0]] + more) % prime
    return tuple(ahead), wanted % prime


def with_added(prime, asking, pairs):
    """The ASKING with RESIDUES added at registers, pairs of which are given."""
    result = list(asking)
    for slot, residue in pairs:
        result[slot] = (result[slot] + residue) % prime
    return tuple(result)


def seen_lines(prime, terms):
    """A dict that tells by the number of a LINE what is seen there."""
    found = {}
    for mark, residue in terms:
        put, turn, passed, added = found.get(mark[0], NOTHING_SEEN)
        if mark[1] == "put":
            put = residue
        elif mark[1] == "turn":
            turn = residue
        elif mark[1] == "pass":
            passed = residue
        else:
            added = tuple([own * residue % prime for own in mark[2]])
        found[mark[0]] = (put, turn, passed, added)
    return found


def alike_at_parts(dealt, asking):
    """The tuple of what is asked at the parts of each SHARING; None if that is not alike there."""
    found = [asking[own[0]] for own in dealt]
    for residue, parts in zip(found, dealt):
        if any([asking[slot] != residue for slot in parts]):
            return None
    return tuple(found)


def bad_form(dealt, asking):
    """The FORM of a bad ASKING; None if it is not bad."""
    form = alike_at_parts(dealt, asking)
    return None if form is None or not any(form) else form


def line_choices(machine, line, number):
    """The list of the triples (seen, price, terms) of what is worth seeing at this LINE.

    Left out are: a put beside a read, which is no cheaper than a read of another row alone;
    a put of a clearing, of which nothing is asked on; of reads of multiples all but the least.
    """
    passes = _residues(machine, "pass") if machine[1][line[1]] is not None else [0]
    turns = _residues(machine, "turn")
    found = []
    for put, added in _inner_choices(machine, line):
        for turn in turns:
            for passed in passes:
                seen = (put, turn, passed, added)
                terms = _terms_of(machine[0], number, seen)
                price = sum([price_of_word(machine, mark[1]) for mark, _ in terms])
                found.append((seen, price, terms))
    return found


def _residues(machine, word):
    return [0] if price_of_word(machine, word) is None else list(range(machine[0]))


def _inner_choices(machine, line):
    puts = [(put, ()) for put in _residues(machine, "put")]
    if line[0] != "set":
        return puts
    if not line[2]:
        return puts[:1]
    if price_of_word(machine, "read") is None:
        return puts
    return puts + [(0, row) for row in all_rows(machine[0], len(line[2]))[1:]]


def _terms_of(prime, number, seen):
    put, turn, passed, added = seen
    terms = [((number, word), own) for word, own in (("pass", passed), ("put", put), ("turn", turn)) if own]
    if added:
        lead = [own for own in added if own][0]
        unit = inverse(prime, lead)
        terms.append(((number, "read", tuple([own * unit % prime for own in added])), lead))
    return tuple(sorted(terms))
