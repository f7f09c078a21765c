"""What things are, as the document states it, written down a second time for the tests."""

from reckon import Play, all_marks, is_number


def below(thing, bound):
    return is_number(thing) and 0 <= thing < bound


def is_set(thing, good):
    """Whether thing is a tuple of what is good, ascending without duplicates."""
    if type(thing) is not tuple or not all(good(own) for own in thing):
        return False
    return all(a < b for a, b in zip(thing, thing[1:]))


def residues(thing, prime, length):
    return type(thing) is tuple and len(thing) == length and all(below(own, prime) for own in thing)


def machine(thing):
    if type(thing) is not tuple or len(thing) != 3:
        return False
    prime, buses, sorts = thing
    if not is_number(prime) or prime not in (2, 3, 5) or type(buses) is not tuple or buses == ():
        return False
    told = [own for own in buses if own is not None]
    if not all(is_number(own) and own >= 0 for own in told):
        return False
    if told and not (max(told) < len(told) and set(told) == set(range(max(told) + 1))):
        return False

    def sort(own):
        return (type(own) is tuple and len(own) == 2 and type(own[0]) is str
                and own[0] in ("pass", "put", "read", "turn") and is_number(own[1]) and 1 <= own[1] <= 9)
    return sorts != () and is_set(sorts, sort) and len({own[0] for own in sorts}) == len(sorts)


def way(frame, many, thing):
    return type(thing) is tuple and all(item(frame, many, own) for own in thing)


def item(frame, many, thing):
    if type(thing) is not tuple or not thing or type(thing[0]) is not str:
        return False
    prime, slots = frame[0], len(frame[1])
    if thing[0] == "set" and len(thing) == 3 and below(thing[1], slots):
        def pair(own):
            return type(own) is tuple and len(own) == 2 and below(own[0], slots) and below(own[1], prime) and own[1] > 0
        return is_set(thing[2], pair) and len({own[0] for own in thing[2]}) == len(thing[2])
    if thing[0] == "draw" and len(thing) == 2:
        return below(thing[1], slots)
    if thing[0] == "call" and len(thing) == 3:
        return below(thing[1], many) and is_set(thing[2], lambda own: below(own, slots))
    if thing[0] == "one" and len(thing) == 2 and type(thing[1]) is tuple and len(thing[1]) in (2, 3, 4):
        return all(way(frame, many, own) for own in thing[1])
    return thing[0] == "many" and len(thing) == 2 and way(frame, many, thing[1])


def program(thing):
    if type(thing) is not tuple or len(thing) != 3 or not machine(thing[0]):
        return False
    slots = len(thing[0][1])
    if type(thing[1]) is not tuple or not thing[1] or type(thing[2]) is not tuple or not thing[2]:
        return False
    for own in thing[1]:
        if not is_set(own, lambda slot: below(slot, slots)) or len(own) < 2:
            return False
    parts = [slot for own in thing[1] for slot in own]
    return len(parts) == len(set(parts)) and all(way(thing[0], len(thing[2]), own) for own in thing[2])


def lines_if_run(own, thing):
    """The LINES of thing if it is a RUN, None otherwise."""
    if type(thing) is not tuple or not all(is_number(number) and 0 <= number < 1000 for number in thing):
        return None
    try:
        return Play(own, thing).lines
    except (IndexError, AssertionError):
        return None


def looks(own, lines, thing):
    if type(thing) is not tuple or not all(mark(own, lines, more) for more in thing):
        return False
    return list(thing) == sorted(thing) and len({more[:2] for more in thing}) == len(thing)


def mark(own, lines, thing):
    if type(thing) is not tuple or not thing or not below(thing[0], len(lines)):
        return False
    if len(thing) == 3 and not (type(thing[2]) is tuple and all(is_number(more) for more in thing[2])):
        return False
    return thing in all_marks(own, lines, thing[0])


def terms(own, lines, thing):
    if type(thing) is not tuple or not all(type(more) is tuple and len(more) == 2 for more in thing):
        return False
    if not all(below(more[1], own[0][0]) and more[1] for more in thing):
        return False
    return looks(own, lines, tuple(more[0] for more in thing))


def table(own, length, most, thing):
    def entry(more):
        return (type(more) is tuple and len(more) == 3 and residues(more[0], own[0], length)
                and residues(more[1], own[0], length) and below(more[2], most + 1))
    return is_set(thing, entry) and len({more[:2] for more in thing}) == len(thing)


def look_plan(own, lines, thing, seen=()):
    if type(thing) is tuple and thing == ():
        return True
    if type(thing) is not tuple or len(thing) != 2 or not mark(own, lines, thing[0]):
        return False
    if thing[0][:2] in seen or type(thing[1]) is not tuple or len(thing[1]) != own[0][0]:
        return False
    return all(look_plan(own, lines, more, seen + (thing[0][:2],)) for more in thing[1])
