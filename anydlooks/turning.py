"""The turns of a RUN: which one each LINE is of, without writing out what is only repeated."""

from anydlooks.courses import block_sizes, item_size, way_size
from anydlooks.marks import price_of_word


def _turns_in(way, table):
    """How many turns begin in a way in which nothing is chosen, table telling it of blocks."""
    return sum([1 + table[item[1]] for item in way if item[0] == "call"])


def block_turns(blocks):
    """For each block in which nothing is chosen how many turns begin in it; 0 for the others."""
    sizes, table = block_sizes(blocks), [0] * len(blocks)
    for _ in blocks:
        table = [0 if size is None else _turns_in(way, table) for way, size in zip(blocks, sizes)]
    return table


class Turns:
    """The turns of a whole Course."""

    def __init__(self, course):
        self.course = course
        self.inner = block_turns(course.blocks)
        self.count = 1
        # For each step the turn in which it is, and how many turns began ahead of it.
        self.steps = []
        self._number()

    def _number(self):
        held, current = [], 0
        for word, _, item, number, _ in self.course.steps:
            if word in ("end", "over"):
                current = held.pop()
            elif word in ("begin", "turn"):
                held.append(current)
                current = self.count
            self.steps.append((current, self.count))
            if word in ("begin", "turn"):
                self.count += 1
            elif word == "do":
                self.count += _turns_in((item,), self.inner)
            elif word == "round":
                self.count += number * (1 + _turns_in(item[1], self.inner))

    def of_line(self, number):
        """The turn of the LINE of this number."""
        low, high = 0, len(self.steps)
        while high - low > 1:
            middle = (low + high) // 2
            if self.course.steps[middle][4] <= number:
                low = middle
            else:
                high = middle
        word, _, item, _, lines = self.course.steps[low]
        current, count = self.steps[low]
        if word == "round":
            times, rest = divmod(number - lines, way_size(item[1], self.course.sizes))
            first = count + times * (1 + _turns_in(item[1], self.inner))
            return self._in_way(item[1], rest, first, first + 1)
        return self._in_way((item,), number - lines, current, count) if word == "do" else current

    def _in_way(self, way, number, current, count):
        """The turn of a LINE of a way in which nothing is chosen; count turns began ahead of the way."""
        rest, first = number, count
        for item in way:
            size = item_size(item, self.course.sizes)
            if rest < size:
                if item[0] == "call" and rest < self.course.sizes[item[1]]:
                    return self._in_way(self.course.blocks[item[1]], rest, first, first + 1)
                return current
            rest -= size
            first += _turns_in((item,), self.inner)
        return current

    def height(self, looks, machine):
        """The greatest price of the looks at the LINES of one turn."""
        sums = {}
        for mark in looks:
            turn = self.of_line(mark[0])
            sums[turn] = sums.get(turn, 0) + price_of_word(machine, mark[1])
        return max(list(sums.values()), default=0)
