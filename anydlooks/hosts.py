"""HOSTS by which one entry (ahead, behind, price) of mended prices is what tells.

Around a block each bus is written last, ahead of the block, from a part of its own, and, if the
bus is asked behind the block, first behind it from another one. For each RESIDUE there is a
SHARING of what has to be asked so ahead of it all, with a link; all links, and what is asked
behind the block, are added up by one last set, the only one at which all can be looked at. What
must not be asked lies in a SHARING with a part that nobody touches.
"""

from anydlooks.marks import price_of_word
from anydlooks.sights import bus_count


def _new(buses, bus):
    """One more register, on this bus or on none."""
    buses.append(bus)
    return len(buses) - 1


def run_in_draws(machine, entry):
    """How many draws are enough ahead of the last write to a bus.

    What is written there less what the bus held must not be told at less than the price of "put"
    (or, without "put", than that of the entry) by going back to where the bus held 0.
    """
    prices = [price_of_word(machine, word) for word in ("pass", "turn")]
    if prices[0] is None:
        return 0
    put, least = price_of_word(machine, "put"), min([own for own in prices if own is not None])
    return (entry[2] if put is None else put) // least + 1


def host_of(machine, entry, many):
    """The HOST for the entry, with so many draws ahead of the last write to each bus."""
    (prime, _, sorts), (ahead, behind, _) = machine, entry
    buses, count = list(machine[1]), len(machine[1])
    shares = [[slot for slot in range(count) if ahead[slot] == residue] for residue in range(prime)]
    first, last, told = [], [], [(slot, behind[slot]) for slot in range(count) if behind[slot]]
    for bus in range(bus_count(machine)):
        writer, source = _new(buses, bus), _new(buses, None)
        shares[0].append(writer)
        shares[ahead[count + bus]].append(source)
        first.extend([("draw", writer)] * many + [("set", writer, ((source, 1),))])
        if behind[count + bus]:
            writer, source = _new(buses, bus), _new(buses, None)
            shares[0].append(writer)
            shares[(0 - behind[count + bus]) % prime].append(source)
            last.append(("set", writer, ((source, 1),)))
    for residue in range(1, prime):
        if residue == 1 or shares[residue]:
            links = [_new(buses, None) for _ in range(2 if residue == 1 else 1)]
            shares[residue].extend(links)
            told.extend([(slot, residue) for slot in links])
    if shares[0]:
        shares[0].append(_new(buses, None))
    only_pass = [word for word, _ in sorts] == ["pass"]
    last.append(("set", _new(buses, bus_count(machine) if only_pass else None), tuple(sorted(told))))
    dealt = tuple([tuple(sorted(own)) for own in shares if own])
    return (prime, tuple(buses), sorts), dealt, tuple(first), tuple(last)
