"""A run, and marks of it, by which a Joint found a state."""

from anydlooks.grids import bits_of


def traced(joint, state):
    """The pair (run, marks) by which the state is asked at the very beginning.

    marks are pairs (mark, residues), residues being what the tracks have for the mark.
    """
    place = joint.places[(0, (), 0)]
    todo, told = [("state", place, place.end(joint.graph), state)], Told(joint.digits)
    behind = joint.graph.behind()
    # What is done first lies last, so told is told in the order of the program.
    while todo:
        task = todo.pop()
        if task[0] == "state":
            todo.extend(list(reversed(_tasks(joint, behind, task))))
        else:
            told.take(task[0], task[1])
    return tuple(told.run), told.marks


class Told:
    """The numbers of a run and the marks of it, step by step."""

    def __init__(self, digits):
        self.digits = digits
        self.run = []
        self.marks = []
        self.lines = 0
        # The places in run of the "many" that are being gone round.
        self.rounds = []
        # The ways to mix what the tracks have within the calls that have begun.
        self.mixes = []

    def take(self, word, what):
        """One more step."""
        if word == "line":
            self.marks.extend([((self.lines, *rest), self._mixed(residues)) for rest, residues in what])
            self.lines += 1
        elif word == "pick":
            self.run.append(what)
        elif word == "enter":
            self.rounds.append(len(self.run))
            self.run.append(0)
        elif word == "round":
            self.run[self.rounds[-1]] += 1
        elif word == "leave":
            self.rounds.pop()
        elif word == "mix":
            self.mixes.append(what)
        else:
            self.mixes.pop()

    def _mixed(self, residues):
        """What the tracks have for a mark of the call that has begun last."""
        result = residues
        for mix in reversed(self.mixes):
            result = self.digits.mixed_residues(result, mix)
        return result


def _when(place, point, state):
    """The pair (time, cost) of when the state was found there; None if it was not."""
    for time, cost, mask in place.found.get(point, []):
        if mask >> state & 1:
            return time, cost
    return None


def _ahead_of_time(place, point, time):
    """The triples (time, cost, state) of all that was found there ahead of this time."""
    found = []
    for own, cost, mask in place.found.get(point, []):
        if own < time:
            found.extend([(own, cost, state) for state in bits_of(mask)])
    return found


def _tasks(joint, behind, task):
    """What is to be done, in the order of the program, for a state at a point of a place."""
    _, place, point, state = task
    if point == place.start(joint.graph) and state == place.key[2]:
        return []
    when = _when(place, point, state)
    if point == "ahead":
        return _put_back_tasks(joint, place, state, when)
    for word, what, node in behind[point]:
        if word == "line":
            tasks = _line_tasks(joint, place, (what, node), state, when)
        elif word == "call":
            tasks = _call_tasks(joint, place, (what, node), state, when)
        else:
            own = _when(place, node, state)
            is_so = own is not None and own[0] < when[0] and own[1] == when[1]
            tasks = [(word, what), ("state", place, node, state)] if is_so else []
        if tasks:
            return tasks
    return []


def _line_tasks(joint, place, edge, state, when):
    """Likewise, if the state comes through this LINE; () if it does not."""
    line, node = edge
    for _, cost, own in _ahead_of_time(place, node, when[0]):
        for _, price, mask in joint.line_rows(line).rows(own):
            if cost + price == when[1] and mask >> state & 1:
                seen = _seen(joint, line, own, (state, None, price))
                return [("line", seen), ("state", place, node, own)]
    return []


def _seen(joint, line, behind, wanted):
    """What is seen at a LINE if this state is asked behind it; wanted is (state ahead, asked, price)."""
    state, asked, price = wanted
    for ahead, own, cost, seen in joint.moves.of_line(line).ahead(joint.digits.digits(behind)):
        if cost == price and joint.digits.number(ahead) == state and asked in (None, own):
            return seen
    return ()


def _call_tasks(joint, place, edge, state, when):
    """Likewise, if the state comes through this call."""
    (_, block, kept), node = edge
    for _, cost, own in _ahead_of_time(place, node, when[0]):
        tasks = _called_tasks(joint, (block, kept, own), state, (when[0], when[1] - cost))
        if tasks:
            return [*tasks, ("state", place, node, own)]
    return []


def _called_tasks(joint, called, state, when):
    """What is to be done within a call, behind which called[2] is asked, and ahead of it state."""
    least, mix = joint.digits.least_mixed(called[2])
    place = joint.places.get((called[0], called[1], least))
    if place is None:
        return []
    end = place.end(joint.graph)
    for own, cost, inner in _ahead_of_time(place, end, when[0]):
        if cost == when[1] and joint.digits.mixed_mask(1 << inner, mix) >> state & 1:
            return [("mix", mix), ("state", place, end, inner), ("unmix", None)]
    return []


def _put_back_tasks(joint, place, state, when):
    """What is to be done for a state ahead of a call that keeps registers: the last put back comes last."""
    block, kept, behind = place.key
    line = ("back", kept[-1], 0)
    for wanted, price, states in joint.line_rows(line).rows(behind):
        held = tuple([(0 - own) % joint.digits.prime for own in joint.held(kept[-1], wanted)])
        bare = bits_of(joint.digits.moved(1 << state, held))[0]
        for own in bits_of(states):
            tasks = _called_tasks(joint, (block, kept[:-1], own), bare, (when[0], when[1] - price))
            if tasks:
                return [*tasks, ("line", _seen(joint, line, behind, (own, wanted, price)))]
    return []
