"""LOOK PLANS: which mark is looked at next, by what the marks ahead showed."""

from anydlooks.errors import Unfit
from anydlooks.marks import has_line
from anydlooks.plain import is_tuple_of


def is_plan(sight, thing):
    """Whether thing is a LOOK PLAN of the RUN of a Sight."""
    return _is_plan_behind(sight, [], thing)


def _is_plan_behind(sight, marks, thing):
    """Whether thing is a LOOK PLAN that can follow these marks."""
    if thing == ():
        return True
    if not is_tuple_of(thing, 2) or not is_tuple_of(thing[1], sight.prime):
        return False
    mark = thing[0]
    if not has_line(mark, len(sight.lines)) or not sight.are_looks((mark,)):
        return False
    if mark[:2] in [own[:2] for own in marks]:
        return False
    return all([_is_plan_behind(sight, [*marks, mark], own) for own in thing[1]])


def checked_plan(sight, plan):
    """The plan; raises Unfit() if it is none."""
    if not is_plan(sight, plan):
        raise Unfit()
    return plan


def ways_of(plan):
    """The list of the pairs of the marks on a way of the plan and what they show."""
    if not plan:
        return [((), ())]
    found = []
    for residue, rest in enumerate(plan[1]):
        found.extend([((plan[0], *marks), (residue, *way)) for marks, way in ways_of(rest)])
    return found
