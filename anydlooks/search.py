"""Best runs behind whose end something is asked, by what is asked ahead of them.

A front is a dict that tells, by a pair (state, spent), the best that asks this state ahead of
a piece [moves.py]. A best one is a pair (key, marks) with the key (cost, lines, count, run):
what its marks cost, how many LINES and numbers it has, and the numbers themselves. Of keys
the least is kept. marks are pairs (place, seen), place telling of a LINE how many LINES lie
behind it, so that pieces ahead leave it as it is.

The modes say what is kept apart. "cheap" has all in the key, the cost first. "run" has spent for
what marks cost, and 0 in cost, so that fewest LINES count, for each price at most most. "turns"
is like it, but spent is what the marks of one turn cost, and is at most most in each turn.
"""

from anydlooks.ways import calls_in, fewest_in, fewest_lines_of, fewest_of, inner_ways, led_to, line_of_item

_START = ((0, 0, 0, ()), ())


def _put(found, place, own):
    """Keeps the better one."""
    if place not in found or own[0] < found[place][0]:
        found[place] = own


def _keys(front):
    return {place: own[0] for place, own in front.items()}


def _kept_better(front):
    """The front without what is no better than something for which less is spent."""
    found, best = {}, {}
    for place in sorted(front, key=lambda own: own[1]):
        own = front[place]
        if place[0] not in best or own[0] < best[place[0]]:
            found[place] = own
            best[place[0]] = own[0]
    return found


def _by_state(front):
    """The front in which nothing is spent."""
    found = {}
    for (state, _), own in front.items():
        _put(found, (state, 0), own)
    return found


def _chosen(number, best):
    """The best one with a number chosen ahead of it."""
    (cost, lines, count, run), marks = best
    return (cost, lines, count + 1, (number, *run)), marks


def telling_of(best):
    """The pair (run, terms) of a best one of one track."""
    (_, lines, _, run), marks = best
    terms = [((lines - 1 - place, *rest), residues[0]) for place, seen in marks for rest, residues in seen]
    return run, tuple(terms)


def _calls_around(way, fewest):
    """The pairs (block, lines) of the calls in a way: how few lines of its runs are not in the block called."""
    found, lines = [], fewest_in(way, fewest)
    for item in way:
        rest = lines - fewest_of(item, fewest)
        if item[0] == "call":
            found.append((item[1], rest + len(item[2])))
        for _, inner in inner_ways((), item):
            found.extend([(block, rest + more) for block, more in _calls_around(inner, fewest)])
    return found


def _lines_outside(blocks, start, fewest):
    """For each block how few LINES of a run of block start that comes to it are not in it; None if none does."""
    found = [None] * len(blocks)
    found[start] = 0
    for _ in blocks:
        for number, way in enumerate(blocks):
            if found[number] is not None:
                for block, lines in _calls_around(way, fewest):
                    more = found[number] + lines
                    found[block] = more if found[block] is None else min(more, found[block])
    return found


class Search:
    """The fronts of pieces of a program, to a greatest price, and to limits of LINES and numbers.

    Only what is best by bests, a Bests [prices.py], is kept of blocks; and only what can be part
    of a run of block start within the limits.
    """

    def __init__(self, program, start, moves, mode, most, limits, bests):
        self.blocks = program[2]
        self.start = start
        self.moves = moves
        self.most = most
        self.limits = limits
        self.fewest = fewest_lines_of(self.blocks)
        self.outside = _lines_outside(self.blocks, start, self.fewest)
        # How many LINES there may be from where the search is to the end of the block.
        self.room = limits[0]
        self.bests = bests
        self.by_turns = mode == "turns"
        self.layered = mode in ("run", "turns")
        calls = [(number, callee) for number, way in enumerate(self.blocks) for callee in calls_in(way)]
        # What calls fewer blocks is settled first, so that callers need it just once.
        self.ranks = [len(led_to(calls, (number,))) for number in range(len(self.blocks))]
        self.tables = {}
        self.users = {}
        self.dirty = {}
        self.current = None

    def through(self, behind):
        """The front ahead of block start, if this state is asked behind it."""
        while True:
            self.room = self.limits[0]
            found = self._way(self.blocks[self.start], {(behind, 0): _START})
            if not self.dirty:
                return self._done(found)
            self._settle()

    def _settle(self):
        """Goes over what blocks ask until nothing is better than before."""
        while self.dirty:
            key = min(list(self.dirty), key=lambda own: self.ranks[own[0]])
            self.dirty.pop(key)
            self.current = key
            self.room = self.limits[0] - self.outside[key[0]]
            found = self._done(self._way(self.blocks[key[0]], {(key[1], 0): _START}))
            found = self.bests.only_best(key, found)
            if _keys(found) != _keys(self.tables[key]):
                self.tables[key] = found
                for user in list(self.users[key]):
                    self.dirty[user] = True
        self.current = None

    def _done(self, front):
        if self.by_turns:
            return _by_state(front)
        return _kept_better(front) if self.layered else front

    def _asked(self, block, behind):
        """The front ahead of a block, as far as it is known."""
        key = (block, behind)
        if key not in self.tables:
            self.tables[key] = {}
            self.users[key] = {}
            self.dirty[key] = True
        if self.current is not None:
            self.users[key][self.current] = True
        return self.tables[key]

    def _way(self, way, front):
        room, lines = self.room, fewest_in(way, self.fewest)
        for item in reversed(way):
            lines -= fewest_of(item, self.fewest)
            self.room = room - lines
            front = self._item(item, front)
        self.room = room
        return front

    def _item(self, item, front):
        if item[0] == "one":
            return self._one(item[1], front)
        if item[0] == "many":
            return self._many_by_turns(item[1], front) if self.by_turns else self._many(item[1], front)
        if item[0] == "call":
            return self._call(item, front)
        if item[0] == "times":
            return self._times(item, front)
        return self._line(line_of_item(item), front)

    def _line(self, line, front):
        own, found = self.moves.of_line(line), {}
        for (state, spent), best in front.items():
            for ahead, _, price, seen in own.ahead(state):
                self._look(found, (ahead, spent), best, price, seen)
        return found

    def _keep(self, found, state, spent, key, marks):
        """Keeps a best one, unless it is too great."""
        cost, lines, count, _ = key
        if cost + spent <= self.most and lines <= self.room and count <= self.limits[1]:
            _put(found, (state, spent), (key, marks))

    def _look(self, found, place, best, price, seen):
        """Puts one more LINE ahead of the best one, with what is seen there."""
        (cost, lines, count, run), marks = best
        state, spent = place
        if seen:
            marks = ((lines, seen), *marks)
        if self.layered:
            self._keep(found, state, spent + price, (0, lines + 1, count, run), marks)
        else:
            self._keep(found, state, spent, (cost + price, lines + 1, count, run), marks)

    def _one(self, ways, front):
        found = {}
        for number, way in enumerate(ways):
            for (state, spent), best in self._way(way, front).items():
                key, marks = _chosen(number, best)
                self._keep(found, state, spent, key, marks)
        return found

    def _many(self, way, front):
        """None, one or more times round.

        What is no better than with fewer times stays so further ahead, as each time round
        adds the same to both. So there are at most as many times as states.
        """
        found, live, number = {}, front, 0
        while live:
            better = {}
            for place, best in live.items():
                own = _chosen(number, best)
                if place not in found or own[0] < found[place][0]:
                    found[place] = own
                    better[place] = best
            live = self._way(way, better)
            live = _by_state(live) if self.by_turns else live
            number += 1
        return found

    def _many_by_turns(self, way, front):
        """Likewise, but what was spent in the turn outside stays as it is."""
        found = {}
        for layer in sorted(set([spent for _, spent in front])):
            inner = {(state, 0): best for (state, spent), best in front.items() if spent == layer}
            for (state, _), best in self._many(way, inner).items():
                found[(state, layer)] = best
        return found

    def _times(self, item, front):
        """("times", way, number): just so many times round."""
        found = front
        for _ in range(item[2]):
            found = self._way(item[1], found)
        return {place: _chosen(item[2], best) for place, best in found.items()}

    def _call(self, item, front):
        held = {((state, ()), spent): best for (state, spent), best in front.items()}
        for slot in reversed(item[2]):
            held = self._back(slot, held)
        found = {}
        for ((state, added), spent), best in held.items():
            if best[0][1] + self.fewest[item[1]] <= self.room:
                for (ahead, more), own in self._asked(item[1], state).items():
                    place = (self.moves.with_put_backs(ahead, added), spent + more)
                    self._join(found, place, own, best)
        return found

    def _back(self, slot, held):
        """One more put back; what it asks where the call begins is held."""
        own, found = self.moves.of_line(("back", slot, 0)), {}
        for ((state, added), spent), best in held.items():
            for ahead, wanted, price, seen in own.ahead(state):
                self._look(found, ((ahead, (*added, (slot, wanted))), spent), best, price, seen)
        return found

    def _join(self, found, place, own, best):
        """Puts what a block makes ahead of the best one."""
        (one_cost, one_lines, one_count, one_run), one_marks = own
        (cost, lines, count, run), marks = best
        if one_lines + lines > self.room or one_count + count > self.limits[1]:
            return
        key = (one_cost + cost, one_lines + lines, one_count + count, one_run + run)
        if place not in found or key < found[place][0]:
            ahead = [(number + lines, seen) for number, seen in one_marks]
            self._keep(found, place[0], place[1], key, (*ahead, *marks))
