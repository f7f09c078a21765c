"""WAYS that deal parts anew, and where they help if they are put in."""

from anydlooks.errors import NoItem, NoRegister, TooMany, Unfit
from anydlooks.plain import frozen, is_below, is_counts
from anydlooks.prices import nothing_told
from anydlooks.programs import is_program, is_way
from anydlooks.residues import rank, row_by
from anydlooks.ways import all_spots, program_with


def _check_registers(machine, registers):
    """Raises NoRegister(number) for the first one that is none."""
    for slot in registers:
        if not is_below(slot, len(machine[1])):
            raise NoRegister(slot)


def _check_fit(registers, slot):
    if len(registers) < 2 or slot in registers:
        raise Unfit()


def _renewal(machine, registers, slot):
    least, way = min(registers), []
    for own in sorted(registers)[1:]:
        way.append(("draw", slot))
        way.append(("set", least, tuple(sorted([(least, 1), (slot, 1)]))))
        way.append(("set", own, tuple(sorted([(own, 1), (slot, machine[0] - 1)]))))
    return (*way, ("set", slot, ()))


def renewal(machine, registers, slot):
    """The WAY that renews the registers by draws of the slot."""
    machine, registers = frozen(machine), frozen(registers)
    _check_registers(machine, (*registers, slot))
    _check_fit(registers, slot)
    return _renewal(machine, registers, slot)


def _rows(machine, registers, way):
    """What the registers hold behind a line way, as rows of what they hold ahead, then of draws."""
    machine, registers, way = frozen(machine), frozen(registers), frozen(way)
    _check_registers(machine, registers)
    if len(registers) < 2:
        raise Unfit()
    if not is_way(machine, 0, way) or any([item[0] not in ("set", "draw") for item in way]):
        raise Unfit()
    many, length = len(machine[1]), len(machine[1]) + len(way)
    held = [_unit(length, slot) for slot in range(many)]
    for place, item in enumerate(way):
        if item[0] == "draw":
            held[item[1]] = _unit(length, many + place)
        else:
            rows, factors = [held[slot] for slot, _ in item[2]], [factor for _, factor in item[2]]
            held[item[1]] = row_by(machine[0], rows, factors, length)
    return machine, registers, [held[slot] for slot in registers]


def _unit(length, place):
    return tuple([int(own == place) for own in range(length)])


def _keep_sum(machine, registers, rows):
    length = len(rows[0])
    return row_by(machine[0], rows, [1] * len(rows), length) == tuple([int(own in registers) for own in range(length)])


def _free(machine, rows):
    return rank(machine[0], [row[len(machine[1]):] for row in rows])


def keeps_sum(machine, registers, way):
    """Whether the registers add up behind the way to what they add up to ahead."""
    machine, registers, rows = _rows(machine, registers, way)
    return _keep_sum(machine, registers, rows)


def renews(machine, registers, way):
    """Whether the way keeps the sum of the registers, and all of them but one are even and free behind it."""
    machine, registers, rows = _rows(machine, registers, way)
    return _keep_sum(machine, registers, rows) and _free(machine, rows) == len(rows) - 1


def how_free(machine, registers, way):
    """How many of the registers at most are even and free of one another behind the way."""
    machine, _, rows = _rows(machine, registers, way)
    return _free(machine, rows)


def spots(program):
    """The set of all spots."""
    return tuple(all_spots(frozen(program)[2]))


def _check_spot(program, path):
    if not is_counts(path) or path not in all_spots(program[2]):
        raise NoItem(path)


def put_in(program, path, way):
    """The PROGRAM with the WAY put in at a spot."""
    program, path, way = frozen(program), frozen(path), frozen(way)
    _check_spot(program, path)
    if not isinstance(way, tuple):
        raise Unfit()
    result = program_with(program, path, way, 0)
    if not is_program(result):
        raise Unfit()
    return result


def _with_all(program, paths, way):
    """The program with the way put in at all of the spots, the last one first, as others stay where they are."""
    result = program
    for path in reversed(sorted(paths)):
        result = program_with(result, path, way, 0)
    return result


def renewed(program, paths, registers, slot):
    """The PROGRAM with a renewal put in at each of paths."""
    program, paths, registers = frozen(program), frozen(paths), frozen(registers)
    _check_registers(program[0], (*registers, slot))
    for path in paths:
        _check_spot(program, path)
    _check_fit(registers, slot)
    return _with_all(program, paths, _renewal(program[0], registers, slot))


def _checked(program, registers, slot):
    """The program, and the renewal of the registers by the slot."""
    program, registers = frozen(program), frozen(registers)
    return program, renewal(program[0], registers, slot)


def _spots_where(program, way, most, wanted):
    """The set of the spots at which the way makes it so that the program withstands, or does not, as is wanted."""
    if nothing_told(program, most) == wanted:
        return ()
    return tuple([path for path in all_spots(program[2])
                  if nothing_told(_with_all(program, (path,), way), most) == wanted])


def helping(program, registers, slot, most):
    """The set of the spots at which one renewal makes the PROGRAM withstand most; () if it does without."""
    program, way = _checked(program, registers, slot)
    return _spots_where(program, way, most, True)


def harming(program, registers, slot, most):
    """The set of those at which one makes it not withstand most; () if it does not without."""
    program, way = _checked(program, registers, slot)
    return _spots_where(program, way, most, False)


def fewest_renewals(program, registers, slot, most, many):
    """The least of the sets of at most many spots with renewals at which the PROGRAM withstands most."""
    program, way = _checked(program, registers, slot)
    every, found, sets = all_spots(program[2]), [()], [()]
    for _ in range(many):
        sets = [(*own, path) for own in sets for path in every if not own or path > own[-1]]
        found.extend(sets)
        if len(found) > 200:
            raise TooMany()
    for own in found:
        if nothing_told(_with_all(program, own, way), most):
            return own
    return None
