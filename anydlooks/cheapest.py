"""Terms of one RUN told backwards, LINE by LINE: their WALK, and the cheapest of all."""

from anydlooks.errors import TooMany
from anydlooks.plain import power
from anydlooks.rule import (
    NOTHING_SEEN, ahead_of, asking_length, line_choices, quiet_asking, seen_lines, with_added,
)

_MOST_STATES = 1024


def _all_begun(lines):
    """For each LINE the registers of the put backs, later ones first, whose calls begin ahead of it."""
    found = [[] for _ in lines]
    for line in reversed(lines):
        if line[0] == "back":
            found[line[2]].append(line[1])
    return found


def walk_and_draws(machine, lines, terms):
    """The WALK of the terms, and the list of what the draws are asked."""
    seen = seen_lines(machine[0], terms)
    asked, held = quiet_asking(machine), []
    walk, draws, begun = [asked], [], _all_begun(lines)
    for number in reversed(range(len(lines))):
        line = lines[number]
        asked, wanted = ahead_of(machine, line, asked, seen.get(number, NOTHING_SEEN))
        if line[0] == "draw":
            draws.append(wanted)
        elif line[0] == "back":
            held.append(wanted)
        for slot in reversed(begun[number]):
            asked = with_added(machine[0], asked, [(slot, held.pop())])
        walk.append(asked)
    return tuple(reversed(walk)), list(reversed(draws))


def check_size(machine, lines):
    """Raises TooMany() if ASKINGS, with what put backs hold meanwhile, can be too many."""
    begun, held, most = _all_begun(lines), 0, 0
    for number, line in enumerate(lines):
        held += len(begun[number])
        most = max(most, held)
        held -= int(line[0] == "back")
    if power(machine[0], asking_length(machine) + most) > _MOST_STATES:
        raise TooMany()


def cheapest_terms(machine, lines, walk):
    """A dict that tells for ASKINGS at the beginning the triple of the cheapest heard terms.

    A triple (price, count, terms) has the price and the number of the terms ahead of them,
    so that the least triple is that of the cheapest ones. If walk is not None, only terms
    with this WALK count. A state is an ASKING with what put backs hold behind it.
    """
    best = {quiet_asking(machine): (0, 0, ())}
    if walk is not None and walk[-1] not in best:
        return {}
    begun = _all_begun(lines)
    for number in reversed(range(len(lines))):
        best = _ahead_of_line(machine, lines[number], number, best)
        best = _with_begun(machine, begun[number], best)
        if walk is not None:
            length = asking_length(machine)
            best = {state: best[state] for state in best if state[:length] == walk[number]}
    return best


def _ahead_of_line(machine, line, number, best):
    length = asking_length(machine)
    choices = line_choices(machine, line, number)
    found = {}
    for behind, worth in best.items():
        for seen, price, terms in choices:
            ahead, wanted = ahead_of(machine, line, behind, seen)
            if wanted and line[0] == "draw":
                continue
            state = ahead + (wanted,) if line[0] == "back" else ahead
            own = (worth[0] + price, worth[1] + len(terms))
            if state not in found or own <= found[state][:2]:
                own = (*own, terms + worth[2])
                found[state] = min(own, found.get(state, own))
    return found


def _with_begun(machine, slots, best):
    """The states ahead of the calls that begin here, whose put backs write slots."""
    if not slots:
        return best
    found = {}
    for state, worth in best.items():
        many = len(state) - len(slots)
        ahead = with_added(machine[0], state[:many], list(zip(slots, state[many:])))
        found[ahead] = min(worth, found.get(ahead, worth))
    return found
