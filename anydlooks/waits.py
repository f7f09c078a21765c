"""Whether a register waits for what reads it while another one is written, over all RUNS.

How far a run has come is told by a state. 0: anywhere; 1: behind a LINE that writes the writer,
and none has written the waiting register since; 2: behind what the waiting register waited for.
A table is a dict that tells by pairs (state ahead, state behind) the least path of a piece, a
tuple (lines, count, run, marks) of how many LINES and numbers a run of it has, the numbers, and
the numbers of the LINES by which states change.
"""

from anydlooks.courses import item_size, way_size
from anydlooks.touches import block_touches, way_touches
from anydlooks.tracks import Track


def _still():
    """The table of a piece without LINES."""
    return {(state, state): (0, 0, (), ()) for state in range(3)}


def _put(table, key, path):
    if key not in table or path < table[key]:
        table[key] = path


def _joined(one, other):
    found = {}
    for (start, middle), (lines, count, run, marks) in one.items():
        for (own, end), (more_lines, more_count, more_run, more_marks) in other.items():
            if own == middle:
                later = tuple([lines + mark for mark in more_marks])
                _put(found, (start, end), (lines + more_lines, count + more_count, run + more_run, marks + later))
    return found


def _least(tables):
    found = {}
    for table in tables:
        for key, path in table.items():
            _put(found, key, path)
    return found


def _chosen(number, table):
    """The table with a number chosen ahead."""
    return {key: (lines, count + 1, (number, *run), marks) for key, (lines, count, run, marks) in table.items()}


class Waits:
    """The tables of the blocks, for a register that waits behind LINES that write the writer."""

    def __init__(self, blocks, writer, waiting):
        self.writer = writer
        self.waiting = waiting
        self.tables = [{} for _ in blocks]
        while True:
            more = [self._way(way) for way in blocks]
            if more == self.tables:
                break
            self.tables = more

    def _line(self, slot, reads):
        """The table of a LINE that writes slot; reads tells whether it is a set of the waiting register."""
        found = {(0, 0): (1, 0, (), ()), (2, 2): (1, 0, (), ())}
        if slot == self.writer:
            found[(0, 1)] = (1, 0, (), (0,))
        if slot != self.waiting:
            found[(1, 1)] = (1, 0, (), ())
        if reads:
            found[(1, 2)] = (1, 0, (), (0,))
        return found

    def _way(self, way):
        found = _still()
        for item in way:
            found = _joined(found, self._item(item))
        return found

    def _item(self, item):
        if item[0] == "one":
            return _least([_chosen(number, self._way(way)) for number, way in enumerate(item[1])])
        if item[0] == "many":
            # Times round in which the state stays are spared, and it changes twice at most.
            once = self._way(item[1])
            return _least([_chosen(0, _still()), _chosen(1, once), _chosen(2, _joined(once, once))])
        if item[0] == "call":
            return self._call(item[2], self.tables[item[1]])
        reads = item[0] == "set" and self.waiting in [slot for slot, _ in item[2]]
        return self._line(item[1], reads)

    def _call(self, kept, table):
        found = table
        for slot in kept:
            found = _joined(found, self._line(slot, False))
        if self.waiting in kept and (2, 2) in found:
            # What is put back is read where the call begins.
            lines, count, run, _ = found[(2, 2)]
            mark = lines - len(kept) + kept.index(self.waiting)
            found = _least([found, {(1, 2): (lines, count, run, (mark,))}])
        return found

    def clash(self):
        """The triple (run, number, later) of a least RUN in which it waits for the LINE later; None without."""
        path = self.tables[0].get((0, 2))
        return None if path is None else (path[2], path[3][0], path[3][1])

    def clash_at_beginning(self):
        """Likewise, but it waits at the beginning, which None tells."""
        path = self.tables[0].get((1, 2))
        return None if path is None else (path[2], None, path[3][0])


class Writes:
    """Which LINES of a whole Course write a register."""

    def __init__(self, machine, course, slot):
        self.track = Track(machine, course)
        self.course = course
        self.slot = slot
        self.table = block_touches(course.blocks)

    def last_ahead(self, before):
        """The last LINE ahead of the LINE before that writes the register; -1 if there is none."""
        for word, _, item, number, lines in reversed(self.course.steps):
            if lines >= before:
                continue
            found = -1
            if word == "do":
                found = self._in_way((item,), lines, before)
            elif word == "round":
                found = self._in_rounds(item[1], number, lines, before)
            elif word == "end":
                found = self._in_backs(item[2], lines, before)
            if found >= 0:
                return found
        return -1

    def _in_rounds(self, way, number, first, before):
        size = way_size(way, self.course.sizes)
        if not size or not number:
            return -1
        last = min(number - 1, (before - first - 1) // size)
        found = self._in_way(way, first + last * size, before)
        return found if found >= 0 or not last else self._in_way(way, first + (last - 1) * size, before)

    def _in_backs(self, kept, first, before):
        numbers = [first + place for place, slot in enumerate(kept) if slot == self.slot and first + place < before]
        return numbers[0] if numbers else -1

    def _in_way(self, way, first, before):
        at = first + way_size(way, self.course.sizes)
        for item in reversed(way):
            at -= item_size(item, self.course.sizes)
            if at < before and self.slot in way_touches((item,), self.table)[0]:
                found = self._in_item(item, at, before)
                if found >= 0:
                    return found
        return -1

    def _in_item(self, item, first, before):
        if item[0] != "call":
            return first
        size = self.course.sizes[item[1]]
        found = self._in_backs(item[2], first + size, before)
        return found if found >= 0 else self._in_way(self.course.blocks[item[1]], first, before)
