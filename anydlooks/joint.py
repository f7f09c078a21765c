"""What several tracks ask by the same looks, over all RUNS, cheapest first.

A place is a triple (block, kept, state): a call of the block with these kept registers, behind
whose put backs the state is asked; of states that mixing makes of one another only the least
one has places. Points of a place are the nodes of the block's graph; if registers are kept,
"behind" and "ahead" of the call, and between them those ahead of the last put back. All is
found in the order of what it costs from the very end on, so that nothing is looked for that
costs more than what is wanted.
"""

from anydlooks.digits import Digits
from anydlooks.graphs import Graph
from anydlooks.grids import add_to, bits_of
from anydlooks.moves import Moves
from anydlooks.rule import asking_length


class LineRows:
    """What is asked ahead of one LINE: for each state a list of triples (asked, price, mask).

    asked is what the tracks ask of what is written, if that is a put back.
    """

    def __init__(self, own, digits):
        self.own = own
        self.digits = digits
        self.changes = {}
        for change, price, _ in own.moves:
            masks = self.changes.setdefault(change[own.width:], {})
            add_to(masks, price, 1 << digits.number(change[:own.width]))
        self.known = {}

    def rows(self, state):
        """The list for a state behind the LINE."""
        if state not in self.known:
            quiet, found = self.own.quiet_ahead(self.digits.digits(state)), []
            for wanted in self.changes:
                asked = tuple([(own + more) % self.digits.prime for own, more in zip(quiet[self.own.width:], wanted)])
                if self.own.line[0] != "draw" or not any(asked):
                    for price, mask in self.changes[wanted].items():
                        found.append((asked, price, self.digits.moved(mask, quiet[:self.own.width])))
            self.known[state] = found
        return self.known[state]


class Place:
    """What is known of a place: since when it is asked for, what is found, who uses it."""

    def __init__(self, key, since):
        self.key = key
        self.since = since
        # By points: the mask of all that is found, and the list of the triples (time, cost, mask).
        self.known = {}
        self.found = {}
        # The list of the Results, and that of the triples ((place, point, held), mix, cost) of users.
        self.results = []
        self.users = []

    def start(self, graph):
        """The point behind the call."""
        return "behind" if self.key[1] else graph.ends[self.key[0]]

    def end(self, graph):
        """The point ahead of the call."""
        return "ahead" if self.key[1] else graph.begins[self.key[0]]


class Result:
    """States ahead of a call, at this cost, and by numbers of ways to mix what becomes of them."""

    def __init__(self, cost, mask):
        self.cost = cost
        self.mask = mask
        self.mixed = {}

    def by(self, digits, mix):
        """The mask of what becomes of them."""
        if mix not in self.mixed:
            self.mixed[mix] = digits.mixed_mask(self.mask, mix)
        return self.mixed[mix]


class Joint:
    """The search of a program for states of some tracks, with marks that a view lets.

    What costs more than most is left out; nothing is, if most is None.
    """

    def __init__(self, program, view, tracks, most):
        self.graph = Graph(program[2])
        self.moves = Moves(program[0], view, tracks)
        self.digits = Digits(program[0][0], asking_length(program[0]), tracks)
        self.most = most
        self.lines = {}
        self.places = {}
        self.pending = {}
        self.time = 0

    def line_rows(self, line):
        """The LineRows of a LINE, of a put back without where its call begins."""
        if line not in self.lines:
            self.lines[line] = LineRows(self.moves.of_line(line), self.digits)
        return self.lines[line]

    def first(self, wanted):
        """The pair (cost, state) of a state of the mask wanted, asked at the very beginning.

        It is one of the least cost; None if there is none.
        """
        start = self._place(0, (), 0, 0)
        while self.pending:
            cost = min(list(self.pending))
            self._round(cost)
            mask = start.known.get(start.end(self.graph), 0) & wanted
            if mask:
                return cost, bits_of(mask)[0]
        return None

    def all_ahead(self, block, behind):
        """The list of the pairs (cost, mask) of all that is asked ahead of a block, cheapest first."""
        least, mix = self.digits.least_mixed(behind)
        place = self._place(block, (), least, 0)
        while self.pending:
            self._round(min(list(self.pending)))
        return [(result.cost, result.by(self.digits, mix)) for result in place.results]

    def _place(self, block, kept, state, cost):
        """The Place of a call, asked for now."""
        key = (block, kept, state)
        if key not in self.places:
            self.places[key] = Place(key, cost)
            self._add(cost, key, self.places[key].start(self.graph), 1 << state)
        return self.places[key]

    def _add(self, cost, key, point, mask):
        """Keeps for later what is found at a point of a place at this cost."""
        if self.most is None or cost <= self.most:
            add_to(self.pending.setdefault(cost, {}), (key, point), mask)

    def _round(self, cost):
        """Goes over all that was found at this cost so far."""
        current = self.pending.pop(cost)
        for (key, point), mask in current.items():
            place = self.places[key]
            new = mask & ~place.known.get(point, 0)
            if new:
                self.time += 1
                place.known[point] = place.known.get(point, 0) | new
                place.found.setdefault(point, []).append((self.time, cost - place.since, new))
                self._go_on(place, point, new, cost)

    def _go_on(self, place, point, mask, cost):
        """Goes on from what is new at a point."""
        if point == place.end(self.graph):
            self._tell_users(place, mask, cost)
        if place.key[1]:
            self._undo_put_back(place, point, mask, cost)
        else:
            for word, what, node in self.graph.edges[point]:
                if word == "line":
                    self._line(place, what, node, mask, cost)
                elif word == "call":
                    for state in bits_of(mask):
                        self._call((what[1], what[2], state), (place, node, None), cost)
                else:
                    self._add(cost, place.key, node, mask)

    def _line(self, place, line, node, mask, cost):
        rows = self.line_rows(line)
        for state in bits_of(mask):
            for _, price, ahead in rows.rows(state):
                self._add(cost + price, place.key, node, ahead)

    def _undo_put_back(self, place, point, mask, cost):
        """Goes ahead of the last put back, then of the rest of the call.

        The points between tell by ("held", state) what is to be added where the call begins.
        """
        block, kept, behind = place.key
        if point == "behind":
            for wanted, price, states in self.line_rows(("back", kept[-1], 0)).rows(behind):
                self._add(cost + price, place.key, ("held", self.held(kept[-1], wanted)), states)
        elif point != "ahead":
            for state in bits_of(mask):
                self._call((block, kept[:-1], state), (place, "ahead", point[1]), cost)

    def held(self, slot, wanted):
        """The state that a put back adds where its call begins."""
        return self.moves.with_put_backs(self.moves.nobody(), [(slot, wanted)])

    def _call(self, called, user, cost):
        """What is asked ahead of a call is asked for at this cost; user is (place, point, held)."""
        least, mix = self.digits.least_mixed(called[2])
        place = self._place(called[0], called[1], least, cost)
        use = (user, mix, cost)
        place.users.append(use)
        for result in place.results:
            self._tell(use, result)

    def _tell_users(self, place, mask, cost):
        result = Result(cost - place.since, mask)
        place.results.append(result)
        for use in place.users:
            self._tell(use, result)

    def _tell(self, use, result):
        (user, point, held), mix, cost = use
        mask = result.by(self.digits, mix)
        self._add(cost + result.cost, user.key, point, mask if held is None else self.digits.moved(mask, held))
