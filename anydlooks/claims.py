"""The kinds of CLAIMS: what is a right one, what is against it, and what shows it.

paper is asked of what does not stand, reason of what stands.
"""

from anydlooks.chances import cover, is_cover, telling_by, tells, told_forms
from anydlooks.closed import is_shield, shield, withstands
from anydlooks.closures import has_telling
from anydlooks.each import each_telling, is_each_telling, is_reach, reach, withstands_each
from anydlooks.least import cheapest_telling, is_never_paper, least_telling, never_paper, never_told
from anydlooks.marks import price_of_looks
from anydlooks.persons import group_telling, is_group_telling, is_persons, is_quiet_paper, learns, quiet_paper
from anydlooks.plain import is_count
from anydlooks.programs import is_clean, is_program, is_set_below
from anydlooks.residues import is_row
from anydlooks.sums import form_shield, form_telling, is_form_shield, is_form_telling
from anydlooks.tracks import told_form, track_of


class Safe:
    """No LOOKS of price most at most tell."""

    def __init__(self, program, most):
        self.program = program
        self.most = most

    def fits(self):
        """Whether what stands beside the program is as it must be."""
        return is_count(self.most)

    def is_so(self):
        """Whether the CLAIM stands."""
        return withstands(self.program, self.most)

    def paper(self):
        """A PAPER against it."""
        return least_telling(self.program, self.most)

    def is_paper(self, thing):
        """Whether thing is a PAPER against it."""
        if told_form(self.program, thing) is None:
            return False
        return price_of_looks(self.program[0], [mark for mark, _ in thing[1]]) <= self.most

    def reason(self):
        """A REASON for it."""
        return shield(self.program, self.most)

    def is_reason(self, thing):
        """Whether thing is a REASON for it."""
        return is_shield(self.program, self.most, thing)


class Never:
    """No LOOKS tell, whatever their price."""

    def __init__(self, program):
        self.program = program

    def fits(self):
        """Nothing stands beside the program."""
        return True

    def is_so(self):
        """Whether the CLAIM stands."""
        return never_told(self.program)

    def paper(self):
        """A PAPER against it."""
        return cheapest_telling(self.program)

    def is_paper(self, thing):
        """Whether thing is a PAPER against it."""
        return told_form(self.program, thing) is not None

    def reason(self):
        """A REASON for it."""
        return never_paper(self.program)

    def is_reason(self, thing):
        """Whether thing is a REASON for it."""
        return is_never_paper(self.program, thing)


class Hides:
    """These LOOKS of this RUN do not tell."""

    def __init__(self, program, run, looks):
        self.program = program
        self.course = run
        self.looks = looks

    def fits(self):
        """Whether what stands beside the program is as it must be."""
        track = track_of(self.program, self.course)
        return track is not None and isinstance(self.looks, tuple) and track.are_looks(self.looks)

    def is_so(self):
        """Whether the CLAIM stands."""
        return not tells(self.program, self.course, self.looks)

    def paper(self):
        """A PAPER against it."""
        form = told_forms(self.program, self.course, self.looks)[0]
        return telling_by(self.program, self.course, self.looks, form)

    def is_paper(self, thing):
        """Whether thing is a PAPER against it."""
        if told_form(self.program, thing) is None:
            return False
        return thing[0] == self.course and all([mark in self.looks for mark, _ in thing[1]])

    def reason(self):
        """A REASON for it."""
        return cover(self.program, self.course, self.looks)

    def is_reason(self, thing):
        """Whether thing is a REASON for it."""
        return is_cover(self.program, self.course, self.looks, thing)


class Form:
    """No TELLING of price most at most is one of this FORM."""

    def __init__(self, program, form, most):
        self.program = program
        self.form = form
        self.most = most

    def fits(self):
        """Whether what stands beside the program is as it must be."""
        prime, sharings = self.program[0][0], len(self.program[1])
        return is_row(self.form, prime, sharings) and any(self.form) and is_count(self.most)

    def is_so(self):
        """Whether the CLAIM stands."""
        return self.paper() is None

    def paper(self):
        """A PAPER against it."""
        return form_telling(self.program, self.form, self.most)

    def is_paper(self, thing):
        """Whether thing is a PAPER against it."""
        return is_form_telling(self.program, self.form, self.most, thing)

    def reason(self):
        """A REASON for it."""
        return form_shield(self.program, self.form, self.most)

    def is_reason(self, thing):
        """Whether thing is a REASON for it."""
        return is_form_shield(self.program, self.form, self.most, thing)


class Each:
    """No LOOKS of height most at most tell."""

    def __init__(self, program, most):
        self.program = program
        self.most = most

    def fits(self):
        """Whether what stands beside the program is as it must be."""
        return is_count(self.most)

    def is_so(self):
        """Whether the CLAIM stands."""
        return withstands_each(self.program, self.most)

    def paper(self):
        """A PAPER against it."""
        return each_telling(self.program, self.most)

    def is_paper(self, thing):
        """Whether thing is a PAPER against it."""
        return is_each_telling(self.program, self.most, thing)

    def reason(self):
        """A REASON for it."""
        return reach(self.program, self.most)

    def is_reason(self, thing):
        """Whether thing is a REASON for it."""
        return is_reach(self.program, self.most, thing) and not has_telling(self.program, thing[0])


class Quiet:
    """The group does not learn."""

    def __init__(self, program, persons, group):
        self.program = program
        self.persons = persons
        self.group = group

    def fits(self):
        """Whether what stands beside the program is as it must be."""
        return is_persons(self.program, self.persons) and is_set_below(self.group, len(self.persons))

    def is_so(self):
        """Whether the CLAIM stands."""
        return not learns(self.program, self.persons, self.group)

    def paper(self):
        """A PAPER against it."""
        return group_telling(self.program, self.persons, self.group)

    def is_paper(self, thing):
        """Whether thing is a PAPER against it."""
        return is_group_telling(self.program, self.persons, self.group, thing)

    def reason(self):
        """A REASON for it."""
        return quiet_paper(self.program, self.persons, self.group)

    def is_reason(self, thing):
        """Whether thing is a REASON for it."""
        return is_quiet_paper(self.program, self.persons, self.group, thing)


def claim_of(thing):
    """The CLAIM that thing is; None if it is none."""
    if not isinstance(thing, tuple) or len(thing) < 2 or not is_program(thing[1]) or not is_clean(thing[1]):
        return None
    own = _made(thing[0], thing[1:])
    return own if own is not None and own.fits() else None


def _made(word, rest):
    """What would be a CLAIM of this word, if what stands beside the program fits."""
    if len(rest) == 1:
        return Never(rest[0]) if word == "never" else None
    if len(rest) == 2:
        if word == "safe":
            return Safe(rest[0], rest[1])
        return Each(rest[0], rest[1]) if word == "each" else None
    if len(rest) != 3:
        return None
    if word == "hides":
        return Hides(rest[0], rest[1], rest[2])
    if word == "form":
        return Form(rest[0], rest[1], rest[2])
    return Quiet(rest[0], rest[1], rest[2]) if word == "quiet" else None
