"""Going through a block by the numbers of a RUN, without writing out what is only repeated."""

from anydlooks.errors import Unfit
from anydlooks.plain import is_counts
from anydlooks.ways import line_of_item


def way_size(way, table):
    """How many lines the way makes, table telling it of blocks; None if anything is chosen in it."""
    sizes = [item_size(item, table) for item in way]
    return None if None in sizes else sum(sizes)


def item_size(item, table):
    """How many lines the item makes; None if anything is chosen in it."""
    if item[0] == "call":
        inner = table[item[1]]
        return None if inner is None else inner + len(item[2])
    return 1 if item[0] in ("set", "draw") else None


def block_sizes(blocks):
    """For each block how many lines it makes; None if anything is chosen in it."""
    table = [None] * len(blocks)
    for _ in blocks:
        table = [way_size(way, table) for way in blocks]
    return table


class Course:
    """How far numbers lead through a block of a clean program.

    steps tell what was gone through, as tuples (word, path, item, number, lines), lines
    being how many LINES lay ahead. "do": a set, a draw, or a call in which nothing is chosen.
    "round": a "many" gone round number times, in whose way nothing is chosen. "begin" and
    "end": any other call, behind which number tells how many LINES lay ahead of it. "turn"
    and "over": one time round of any other "many".
    """

    def __init__(self, blocks, sizes, frames):
        self.blocks = blocks
        self.sizes = sizes
        self.frames = frames
        self.lines = 0
        self.steps = []
        self.choices = []
        self.wanted = None

    def go_on(self):
        """Goes up to the next "one" or "many", which is wanted then, or to the end."""
        self.wanted = None
        while self.frames and self.wanted is None:
            word, path, what, number = self.frames.pop()
            if word == "way":
                self._enter(path, what, number)
            elif word == "call":
                self.steps.append(("end", path, what, number, self.lines))
                self.lines += len(what[2])
            elif word == "over":
                self.steps.append(("over", path, what, 0, self.lines))
            elif number:
                self.steps.append(("turn", path, what, 0, self.lines))
                self.frames.append(("loop", path, what, number - 1))
                self.frames.append(("over", path, what, 0))
                self.frames.append(("way", path, what, 0))

    def _enter(self, prefix, way, place):
        if place == len(way):
            return
        if place + 1 < len(way):
            self.frames.append(("way", prefix, way, place + 1))
        path, item = (*prefix, place), way[place]
        size = item_size(item, self.sizes)
        if size is not None:
            self.steps.append(("do", path, item, 1, self.lines))
            self.lines += size
        elif item[0] == "call":
            self.steps.append(("begin", path, item, 0, self.lines))
            self.frames.append(("call", path, item, self.lines))
            self.frames.append(("way", (item[1],), self.blocks[item[1]], 0))
        else:
            self.wanted = (path, item)

    def take(self, number):
        """Goes on by this number, from 0; tells whether it is one that can be chosen."""
        if self.wanted is None:
            return False
        path, item = self.wanted
        if item[0] == "one" and number >= len(item[1]):
            return False
        self.choices.append((path, number, self.lines))
        if item[0] == "one":
            self.frames.append(("way", (*path, number), item[1][number], 0))
        else:
            self._go_round(path, item, number)
        self.go_on()
        return True

    def _go_round(self, path, item, number):
        size = way_size(item[1], self.sizes)
        if size is None:
            self.frames.append(("loop", path, item[1], number))
        else:
            self.steps.append(("round", path, item, number, self.lines))
            self.lines += number * size

    def branch(self):
        """A Course that has come as far, but does not tell how."""
        other = Course(self.blocks, self.sizes, list(self.frames))
        other.lines = self.lines
        other.wanted = self.wanted
        return other


def followed(program, row):
    """The Course of the numbers of row; None if row tells no RUN."""
    if not is_counts(row):
        return None
    blocks = program[2]
    course = Course(blocks, block_sizes(blocks), [("way", (0,), blocks[0], 0)])
    course.go_on()
    for number in row:
        if not course.take(number):
            return None
    return course


def whole_course(program, run):
    """The Course of a RUN; raises Unfit() if it is none."""
    course = followed(program, run)
    if course is None or course.wanted is not None:
        raise Unfit()
    return course


def backs_of(item, start):
    """The put backs behind a call ahead of which start LINES lay."""
    return [("back", slot, start) for slot in item[2]]


def written_out(course):
    """The list of the pairs (LINE, path of its ITEM)."""
    found = []
    for word, path, item, number, _ in course.steps:
        if word == "do":
            _write_out(course.blocks, path, item, found)
        elif word == "end":
            found.extend([(line, path) for line in backs_of(item, number)])
        elif word == "round" and way_size(item[1], course.sizes):
            for _ in range(number):
                _write_way(course.blocks, path, item[1], found)
    return found


def _write_way(blocks, prefix, way, found):
    for place, item in enumerate(way):
        _write_out(blocks, (*prefix, place), item, found)


def _write_out(blocks, path, item, found):
    if item[0] == "call":
        start = len(found)
        _write_way(blocks, (item[1],), blocks[item[1]], found)
        found.extend([(line, path) for line in backs_of(item, start)])
    else:
        found.append((line_of_item(item), path))
