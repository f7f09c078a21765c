"""Terms of RUNS of any length, told backwards; what nobody looks at is gone through once."""

from anydlooks.courses import followed, item_size, way_size
from anydlooks.marks import fit_lines, has_line, is_list_of_terms, price_of_looks
from anydlooks.plain import all_rows, as_set, is_tuple_of
from anydlooks.rule import NOTHING_SEEN, ahead_of, bad_form, quiet_asking, seen_lines, with_added
from anydlooks.ways import line_of_item


def _count_below(numbers, bound):
    """How many of the ascending numbers are below bound."""
    low, high = 0, len(numbers)
    while low < high:
        middle = (low + high) // 2
        if numbers[middle] < bound:
            low = middle + 1
        else:
            high = middle
    return low


class Track:
    """A whole Course, with the terms that somebody has for marks of its LINES."""

    def __init__(self, machine, course):
        self.machine = machine
        self.course = course
        self.seen = {}
        self.looked_at = []
        self.quiet = {}

    def line_at(self, number):
        """The LINE of this number."""
        steps = self.course.steps
        low, high = 0, len(steps)
        while high - low > 1:
            middle = (low + high) // 2
            if steps[middle][4] <= number:
                low = middle
            else:
                high = middle
        word, _, item, begun, lines = steps[low]
        if word == "end":
            return "back", item[2][number - lines], begun
        if word == "round":
            rest = (number - lines) % way_size(item[1], self.course.sizes)
            return self._line_in(item[1], number - rest, rest)
        return self._line_in((item,), lines, number - lines)

    def _line_in(self, way, first, number):
        """The LINE of this number of a way ahead of which first LINES lie."""
        at, rest = first, number
        for item in way:
            size = item_size(item, self.course.sizes)
            if rest < size:
                return self._line_of(item, at, rest)
            at, rest = at + size, rest - size
        return None

    def _line_of(self, item, first, number):
        if item[0] != "call":
            return line_of_item(item)
        inner = self.course.sizes[item[1]]
        if number < inner:
            return self._line_in(self.course.blocks[item[1]], first, number)
        return "back", item[2][number - inner], first

    def are_looks(self, looks):
        """Whether looks, a tuple, are LOOKS of the RUN."""
        if not all([has_line(own, self.course.lines) for own in looks]):
            return False
        return fit_lines(self.machine, [self.line_at(mark[0]) for mark in looks], looks)

    def first_asked(self, terms):
        """What is asked at the beginning; None if the terms are not heard."""
        self.seen = seen_lines(self.machine[0], terms)
        self.looked_at = sorted(self.seen)
        self.quiet = {}
        return self._from(quiet_asking(self.machine))

    def quiet_from(self, behind):
        """Likewise, if nobody looks, but something is asked behind all LINES."""
        self.seen, self.looked_at, self.quiet = {}, [], {}
        return self._from(behind)

    def _from(self, behind):
        asked, held = behind, []
        for word, _, item, number, lines in reversed(self.course.steps):
            if word == "begin":
                asked = with_added(self.machine[0], asked, held.pop())
            elif word == "end":
                asked, added = self._put_back(item[2], lines, asked)
                held.append(added)
            elif word == "round":
                asked = self._round(item[1], number, lines, asked)
            elif word == "do":
                asked = self._item(item, lines, asked)
            if asked is None:
                return None
        return asked

    def _put_back(self, kept, first, asked):
        """What is asked ahead of put backs, and the pairs of what they ask where the call begins."""
        added = []
        for place in reversed(range(len(kept))):
            line = ("back", kept[place], 0)
            asked, wanted = ahead_of(self.machine, line, asked, self.seen.get(first + place, NOTHING_SEEN))
            added.append((kept[place], wanted))
        return asked, added

    def _item(self, item, first, asked):
        """What is asked ahead of an item without choices; None if a draw is asked."""
        if item[0] == "call":
            inner = self.course.sizes[item[1]]
            asked, added = self._put_back(item[2], first + inner, asked)
            asked = self._block(item[1], first, inner, asked)
            return None if asked is None else with_added(self.machine[0], asked, added)
        seen = self.seen.get(first, NOTHING_SEEN)
        asked, wanted = ahead_of(self.machine, line_of_item(item), asked, seen)
        return None if item[0] == "draw" and wanted else asked

    def _block(self, number, first, size, asked):
        """What is asked ahead of a block; gone through once if nobody looks at a LINE of it."""
        way = self.course.blocks[number]
        if self._looks(first, first + size):
            return self._way(way, first, asked)
        key = (number, asked)
        if key not in self.quiet:
            self.quiet[key] = self._way(way, first, asked)
        return self.quiet[key]

    def _looks(self, low, high):
        """The numbers of the LINES from low to below high at which somebody looks."""
        return self.looked_at[_count_below(self.looked_at, low):_count_below(self.looked_at, high)]

    def _way(self, way, first, asked):
        at = first + way_size(way, self.course.sizes)
        for item in reversed(way):
            at -= item_size(item, self.course.sizes)
            asked = self._item(item, at, asked)
            if asked is None:
                return None
        return asked

    def _round(self, way, number, first, asked):
        """What is asked ahead of a way gone through number times."""
        size = way_size(way, self.course.sizes)
        if not size:
            return asked
        left = number
        looked_at = self._looks(first, first + number * size)
        for turn in reversed(as_set([(own - first) // size for own in looked_at])):
            asked = self._again(way, first + (turn + 1) * size, left - turn - 1, asked)
            if asked is None:
                return None
            asked = self._way(way, first + turn * size, asked)
            if asked is None:
                return None
            left = turn
        return self._again(way, first, left, asked)

    def _again(self, way, first, times, asked):
        """What is asked ahead of a way gone through some times, nobody looking.

        There are few ASKINGS, so soon one comes back, and then all others do.
        """
        found, places = [asked], {asked: 0}
        while len(found) <= times:
            asked = self._way(way, first, asked)
            if asked is None:
                return None
            if asked in places:
                start = places[asked]
                return found[start + (times - start) % (len(found) - start)]
            places[asked] = len(found)
            found.append(asked)
        return found[times]


def track_of(program, run):
    """The Track of a RUN; None if it is none."""
    course = followed(program, run)
    if course is None or course.wanted is not None:
        return None
    return Track(program[0], course)


def told_form(program, thing):
    """The FORM of a TELLING; None if thing is none."""
    if not is_tuple_of(thing, 2):
        return None
    run, terms = thing
    track = track_of(program, run)
    if track is None or not is_list_of_terms(terms, program[0][0]) or not terms:
        return None
    if not track.are_looks([mark for mark, _ in terms]):
        return None
    asked = track.first_asked(terms)
    return None if asked is None else bad_form(program[1], asked)


def told_together(program, forms, most, thing):
    """Whether thing is a pair of a RUN and LOOKS of price most at most that tell each of the forms."""
    if not is_tuple_of(thing, 2) or not isinstance(thing[1], tuple):
        return False
    run, looks = thing
    track = track_of(program, run)
    if track is None or not track.are_looks(looks) or price_of_looks(program[0], looks) > most:
        return False
    left = list(forms)
    for factors in all_rows(program[0][0], len(looks)):
        asked = track.first_asked([(mark, factor) for mark, factor in zip(looks, factors) if factor])
        form = None if asked is None else bad_form(program[1], asked)
        left = [own for own in left if own != form]
        if not left:
            return True
    return False
