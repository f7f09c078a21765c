"""What persons learn who see what is written to some registers and goes over some buses."""

from anydlooks.blocks import BY_ALL
from anydlooks.cheapest import check_size
from anydlooks.closures import is_quiet, least_relations_of
from anydlooks.courses import whole_course, written_out
from anydlooks.errors import NoPerson, TooMany
from anydlooks.marks import marks_of_line
from anydlooks.moves import full_view
from anydlooks.plain import all_rows, as_set, ascends, frozen, is_below, is_tuple_of
from anydlooks.prices import Bests, least_told_price, told_prices
from anydlooks.search import telling_of
from anydlooks.sights import bus_count
from anydlooks.tracks import told_form, track_of


def is_persons(program, thing):
    """Whether thing is a tuple, not (), of PERSONS."""
    machine = frozen(program)[0]
    if not isinstance(thing, tuple) or not thing:
        return False
    return all([isinstance(own, tuple) and all([_is_pair(machine, pair) for pair in own]) and ascends(own)
                for own in thing])


def _is_pair(machine, thing):
    if not is_tuple_of(thing, 2):
        return False
    if thing[0] == "pass":
        return is_below(thing[1], bus_count(machine))
    return thing[0] in ("put", "read", "turn") and is_below(thing[1], len(machine[1]))


def _pairs(persons, group):
    """The set of the pairs of the group; raises NoPerson(number)."""
    persons, group = frozen(persons), frozen(group)
    for number in group:
        if not is_below(number, len(persons)):
            raise NoPerson(number)
    return as_set([pair for number in group for pair in persons[number]])


def _sees(machine, pairs, slot, word):
    """Whether the marks of this sort are seen at LINES that write the register."""
    return (word, machine[1][slot] if word == "pass" else slot) in pairs


def _view(machine, pairs):
    """The view that lets what is seen, at no price."""
    return tuple([tuple([(word, 0) for word, _ in own if _sees(machine, pairs, slot, word)])
                  for slot, own in enumerate(full_view(machine))])


def _rest_view(machine, pairs):
    """The view that lets all marks, at no price what is seen."""
    return tuple([tuple([(word, 0 if _sees(machine, pairs, slot, word) else price) for word, price in own])
                  for slot, own in enumerate(full_view(machine))])


def seen_marks(program, persons, group, run):
    """The set of the MARKS of the RUN that the group sees, of reads those with one 1 alone."""
    pairs, program = _pairs(persons, group), frozen(program)
    found = []
    for number, (line, _) in enumerate(written_out(whole_course(program, frozen(run)))):
        for mark in marks_of_line(program[0], line, number):
            if _sees(program[0], pairs, line[1], mark[1]) and (mark[1] != "read" or sum(mark[2]) == 1):
                found.append(mark)
    return tuple(sorted(found))


def _learnt(program, pairs):
    """The set of the FORMS that are learnt from what these pairs see."""
    return tuple(list(told_prices(program, _view(program[0], pairs), 0)))


def learns(program, persons, group):
    """Whether the group learns a FORM."""
    return bool(_learnt(frozen(program), _pairs(persons, group)))


def learnt_forms(program, persons, group):
    """The set of the FORMS that the group learns."""
    return _learnt(frozen(program), _pairs(persons, group))


def group_telling(program, persons, group):
    """A TELLING, all of whose marks the group sees, of the least RUN that has one; None without."""
    pairs, program = _pairs(persons, group), frozen(program)
    best = Bests(program, _view(program[0], pairs), 0, BY_ALL, False).best_told(None)
    return None if best is None else telling_of(best)


def is_group_telling(program, persons, group, thing):
    """Whether thing is a TELLING, of any RUN, whose marks the group sees."""
    pairs, program = _pairs(persons, group), frozen(program)
    if told_form(program, thing) is None:
        return False
    track = track_of(program, thing[0])
    return all([_sees(program[0], pairs, track.line_at(mark[0])[1], mark[1]) for mark, _ in thing[1]])


def quiet_paper(program, persons, group):
    """A QUIET PAPER for the group; None if it learns."""
    pairs, program = _pairs(persons, group), frozen(program)
    if _learnt(program, pairs):
        return None
    return least_relations_of(program, _view(program[0], pairs))


def is_quiet_paper(program, persons, group, thing):
    """Whether thing is a QUIET PAPER for the group."""
    pairs, program = _pairs(persons, group), frozen(program)
    return is_quiet(program, _view(program[0], pairs), thing)


def _sets_to(many):
    """All sets of numbers below many, those with fewer first."""
    choices = sorted(all_rows(2, many), key=sum)
    return [tuple([number for number, own in enumerate(choice) if own]) for choice in choices]


def _lies_in(group, other):
    return all([number in other for number in group])


def _least_groups(program, persons, form):
    """The list of the least groups that learn this FORM, or any if it is None, ascending."""
    found = []
    for group in _sets_to(len(persons)):
        if not any([_lies_in(own, group) for own in found]):
            forms = _learnt(program, _pairs(persons, group))
            if form in forms or form is None and forms:
                found.append(group)
    return sorted(found)


def learning_groups(program, persons):
    """The list of the least groups that learn."""
    return _least_groups(frozen(program), frozen(persons), None)


def quiet_groups(program, persons):
    """The list of the greatest groups that do not learn."""
    learning, found = learning_groups(program, persons), []
    for group in reversed(_sets_to(len(persons))):
        if not any([_lies_in(own, group) for own in learning]) and not any([_lies_in(group, own) for own in found]):
            found.append(group)
    return sorted(found)


def groups_for(program, persons, form):
    """The list of the least groups that learn this FORM."""
    return _least_groups(frozen(program), frozen(persons), frozen(form))


def rest_price(program, persons, group, most):
    """The least rest price of a TELLING; None if there is none to most."""
    pairs, program = _pairs(persons, group), frozen(program)
    return least_told_price(program, _rest_view(program[0], pairs), most)


def rest_telling(program, persons, group, most):
    """A TELLING of the least rest price, of the least RUN that has one; None if there is none to most."""
    pairs, program = _pairs(persons, group), frozen(program)
    best = Bests(program, _rest_view(program[0], pairs), most, BY_ALL, False).best_told(None)
    if best is None:
        return None
    run, terms = telling_of(best)
    check_size(program[0], [line for line, _ in written_out(whole_course(program, run))])
    return run, terms


def least_cuts(program, persons, group):
    """The list of the least sets of pairs without which the group does not learn."""
    pairs, program, found = _pairs(persons, group), frozen(program), []
    if len(pairs) > 6:
        raise TooMany()
    for cut in _sets_to(len(pairs)):
        if not any([_lies_in(own, cut) for own in found]):
            if not _learnt(program, [pair for number, pair in enumerate(pairs) if number not in cut]):
                found.append(cut)
    return sorted([tuple([pairs[number] for number in cut]) for cut in found])
