"""An Engine that goes along a RUN as it is told, and keeps a book of what looks show."""

from anydlooks.errors import NoLine, NothingDone, Unfit
from anydlooks.journeys import Journey
from anydlooks.marks import fits_line, price_of_looks
from anydlooks.plain import all_rows, frozen, is_below, is_count, is_number, power
from anydlooks.residues import factors_for, is_row, product, rank, row_by
from anydlooks.sights import Sight


def _fit_shares(program, shares):
    """Whether shares are what the parts of each SHARING can hold."""
    if not isinstance(shares, tuple) or len(shares) != len(program[1]):
        return False
    return all([is_row(own, program[0][0], len(parts)) for own, parts in zip(shares, program[1])])


class Engine:
    """A RUN of a program, as far as it is told; deeds tell what can be taken back."""

    def __init__(self, program, shares):
        self.code = frozen(program)
        self.shares = frozen(shares)
        if not _fit_shares(self.code, self.shares):
            raise Unfit()
        self.journey = Journey(self.code, self.shares)
        self.numbers = []
        self.residues = []
        self.seen = {}
        self.deeds = []

    def __eq__(self, other):
        if not isinstance(other, Engine):
            return False
        if self.code != other.code or self.shares != other.shares or self.seen != other.seen:
            return False
        return self.numbers == other.numbers and self.residues == other.residues

    def wants(self):
        """("one", how many WAYS), ("many",), ("draw", register), or None at the end."""
        return self.journey.wanted

    def choose(self, number):
        """Goes on by which WAY, or how many times."""
        if not self._wants_choice():
            raise NothingDone()
        if not self._can_choose(number):
            raise Unfit()
        self._choose(number)

    def draw(self, number):
        """Goes on by the RESIDUE drawn."""
        if not self._wants_draw():
            raise NothingDone()
        if not is_below(number, self.code[0][0]):
            raise Unfit()
        self._draw(number)

    def go_on(self, choices, draws):
        """Answers by choices and draws as long as there are some; returns how many of both were taken."""
        choices, draws, start = frozen(choices), frozen(draws), len(self.deeds)
        chosen, drawn, fits = 0, 0, True
        while fits and (self._wants_choice() and chosen < len(choices) or self._wants_draw() and drawn < len(draws)):
            if self._wants_choice():
                fits = self._can_choose(choices[chosen])
                if fits:
                    self._choose(choices[chosen])
                    chosen += 1
            else:
                fits = is_below(draws[drawn], self.code[0][0])
                if fits:
                    self._draw(draws[drawn])
                    drawn += 1
        if not fits:
            while len(self.deeds) > start:
                self.undo()
            raise Unfit()
        return chosen, drawn

    def run(self):
        """The tuple of what was chosen so far."""
        return tuple(self.numbers)

    def drawn(self):
        """The tuple of what was drawn so far."""
        return tuple(self.residues)

    def lines(self):
        """The list of the LINES done."""
        return [own[0] for own in self.journey.steps]

    def registers(self):
        """The tuple of what the registers hold."""
        return tuple(self.journey.slots)

    def buses(self):
        """The tuple of what the buses hold."""
        return tuple(self.journey.on_buses)

    def secrets(self):
        """The tuple of the secrets."""
        return tuple([sum(own) % self.code[0][0] for own in self.shares])

    def look(self, mark):
        """What the mark of a LINE done shows; it is put in the book."""
        mark, steps = frozen(mark), self.journey.steps
        if not isinstance(mark, tuple) or not mark or not is_number(mark[0]):
            raise Unfit()
        if not is_below(mark[0], len(steps)):
            raise NoLine(mark[0])
        if len(mark) < 2 or not fits_line(self.code[0], steps[mark[0]][0], mark):
            raise Unfit()
        if any([own[:2] == mark[:2] for own in list(self.seen)]):
            raise Unfit()
        self.deeds.append(("look", mark))
        self.seen[mark] = self.journey.shown(mark)
        return self.seen[mark]

    def book(self):
        """The set of the pairs (mark, shown)."""
        return tuple(sorted(self.seen.items()))

    def spent(self):
        """The price of the marks in the book."""
        return price_of_looks(self.code[0], list(self.seen))

    def sure(self):
        """The set of the pairs (form, value) of all FORMS that are sure by the book."""
        prime, book = self.code[0][0], self.book()
        sight, found = Sight(self.code, self.lines()), []
        rows, shown = sight.all_shown([own[0] for own in book]), [own[1] for own in book]
        for form in all_rows(prime, len(self.code[1]))[1:]:
            row = row_by(prime, sight.secret_rows(), form, len(sight.sources))
            factors = factors_for(prime, row, rows)
            if factors is not None:
                found.append((form, product(prime, factors, shown)))
        return tuple(found)

    def fitting(self):
        """How many tuples of secrets fit the book."""
        prime, sure = self.code[0][0], self.sure()
        return power(prime, len(self.code[1]) - rank(prime, [form for form, _ in sure]))

    def undo(self):
        """Takes back the last choose, draw or look."""
        if not self.deeds:
            raise NothingDone()
        word, what = self.deeds.pop()
        if word == "look":
            self.seen.pop(what)
        else:
            self.journey.go_back_to(what)
            taken = self.numbers if word == "choose" else self.residues
            taken.pop()

    def twin(self):
        """An Engine with the same answers and book, and the same to take back."""
        other = Engine(self.code, self.shares)
        other.journey = self.journey.twin(self.code, self.shares)
        other.numbers = list(self.numbers)
        other.residues = list(self.residues)
        other.seen = {mark: self.seen[mark] for mark in self.seen}
        other.deeds = list(self.deeds)
        return other

    def _wants_choice(self):
        wanted = self.journey.wanted
        return wanted is not None and wanted[0] != "draw"

    def _wants_draw(self):
        wanted = self.journey.wanted
        return wanted is not None and wanted[0] == "draw"

    def _can_choose(self, number):
        wanted = self.journey.wanted
        return is_count(number) and (wanted[0] == "many" or number < wanted[1])

    def _choose(self, number):
        self.deeds.append(("choose", self.journey.place()))
        self.numbers.append(number)
        self.journey.choose(number)

    def _draw(self, number):
        self.deeds.append(("draw", self.journey.place()))
        self.residues.append(number)
        self.journey.draw(number)
