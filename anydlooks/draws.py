"""Draws that can be left out, or taken from a register, so that nothing more is told."""

from anydlooks.errors import NoItem, NoRegister, TooMany
from anydlooks.plain import all_rows, frozen, is_below, is_tuple_of, power
from anydlooks.prices import nothing_told
from anydlooks.programs import is_program
from anydlooks.ways import all_items, found_item, program_with


def _draws(program):
    return tuple([path for path, item in all_items(program) if item[0] == "draw"])


def draws(program):
    """The set of the PATHS of all draws."""
    return _draws(frozen(program))


def _check_draws(program, paths):
    """Raises NoItem(path) for the first one that is not the PATH of a draw."""
    for path in paths:
        if found_item(program, path)[0] != "draw":
            raise NoItem(path)


def _without(program, paths):
    """The program with the draws at paths left out."""
    result = program
    for path in paths:
        result = program_with(result, path, (("set", found_item(program, path)[1], ()),), 1)
    return result


def _from(program, path, slot):
    """The program with the draw at path taken from a register."""
    return program_with(program, path, (("set", found_item(program, path)[1], ((slot, 1),)),), 1)


def left_out(program, paths):
    """The PROGRAM with these draws left out."""
    program, paths = frozen(program), frozen(paths)
    _check_draws(program, paths)
    return _without(program, paths)


def taken_from(program, path, slot):
    """The PROGRAM with this draw taken from the register."""
    program, path = frozen(program), frozen(path)
    if not is_below(slot, len(program[0][1])):
        raise NoRegister(slot)
    _check_draws(program, (path,))
    return _from(program, path, slot)


def can_go(program, most):
    """The set of the PATHS of the draws each of which can be left out alone."""
    program = frozen(program)
    return tuple([path for path in _draws(program) if nothing_told(_without(program, (path,)), most)])


def _spared(program, most):
    """The list of the sets of PATHS that can be left out together, and lie within no other such set."""
    paths, found, bad = _draws(program), [], []
    if len(paths) > 6:
        raise TooMany()
    # What lies around a set that tells tells, too; what lies within one that does not does not.
    for choice in sorted(all_rows(2, len(paths)), key=sum):
        own = tuple([path for path, chosen in zip(paths, choice) if chosen])
        if any([_lies_in(other, own) for other in bad]):
            continue
        if nothing_told(_without(program, own), most):
            found.append(own)
        else:
            bad.append(own)
    return [own for own in found if not any([own != other and _lies_in(own, other) for other in found])]


def _lies_in(paths, others):
    return all([path in others for path in paths])


def greatest_spared(program, most):
    """The tuple of the greatest sets of PATHS that can be left out together."""
    return tuple(sorted(_spared(frozen(program), most)))


def fewest_draws(program, most):
    """How few draws are left if as many as can be are left out; None if the PROGRAM tells."""
    program = frozen(program)
    spared = _spared(program, most)
    return len(_draws(program)) - max([len(own) for own in spared]) if spared else None


def sources_for(program, path, most):
    """The set of the registers from which this draw can be taken."""
    program, path = frozen(program), frozen(path)
    _check_draws(program, (path,))
    slots = range(len(program[0][1]))
    return tuple([slot for slot in slots if nothing_told(_from(program, path, slot), most)])


def _choices(program, path, most):
    """For one draw the programs with it left out, or taken from a register, that tell nothing."""
    found = [_without(program, (path,))]
    found.extend([_from(program, path, slot) for slot in range(len(program[0][1]))])
    return [own for own in found if nothing_told(own, most)]


def with_fewest(program, most):
    """A PROGRAM that comes of program, tells nothing to most, and has the fewest draws of all such."""
    program = frozen(program)
    paths = _draws(program)
    if power(len(program[0][1]) + 2, len(paths)) > 300:
        raise TooMany()
    if not nothing_told(program, most):
        return None
    best, live = program, [program]
    for path in paths:
        # With a draw exchanged it tells no less, so what tells already is not gone on with.
        live.extend([more for own in list(live) for more in _choices(own, path, most)])
    for own in live:
        if len(_draws(own)) < len(_draws(best)):
            best = own
    return best


def comes_of(program, thing):
    """Whether thing is a PROGRAM that comes of program."""
    program = frozen(program)
    if not is_program(thing) or thing[:2] != program[:2] or len(thing[2]) != len(program[2]):
        return False
    return all([_comes_of(way, other) for way, other in zip(program[2], thing[2])])


def _comes_of(way, other):
    """Whether a WAY comes of a WAY."""
    return len(way) == len(other) and all([_item_comes_of(item, more) for item, more in zip(way, other)])


def _item_comes_of(item, other):
    if item == other:
        return True
    if item[0] == "draw":
        return other[0] == "set" and other[1] == item[1] and _is_one_or_none(other[2])
    if item[0] != other[0] or item[0] not in ("one", "many"):
        return False
    if item[0] == "many":
        return _comes_of(item[1], other[1])
    return len(item[1]) == len(other[1]) and all([_comes_of(way, more) for way, more in zip(item[1], other[1])])


def _is_one_or_none(pairs):
    return not pairs or is_tuple_of(pairs, 1) and pairs[0][1] == 1
