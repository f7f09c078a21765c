"""[5]: machines, ways, programs and what stands in them."""

import unittest

import predicates
from anydlooks.errors import NoBus, NoItem, NoRegister, Unfit
from anydlooks.programs import (
    block_calls, fruitful, is_clean, is_machine, is_program, is_way, item_at, items_of, longest, on_bus, reached,
    readers, replaced, rings, shortest, sizes, writers,
)
from reckon import nest, random_program, random_way, rng_of, things_like
from samples import bus, deep, lost, new_way, plain, renew, round_way, thrice, turned


def walked(prefix, way):
    for place, item in enumerate(way):
        yield prefix + (place,), item
        if item[0] == "one":
            for number, inner in enumerate(item[1]):
                yield from walked(prefix + (place, number), inner)
        if item[0] == "many":
            yield from walked(prefix + (place,), item[1])


def every_item(program):
    return [own for number, way in enumerate(program[2]) for own in walked((number,), way)]


def put_at(program, path, items):
    """The program with items at path, by going down lists."""
    blocks = [list(way) for way in program[2]]

    def go(way, rest):
        way, place = list(way), rest[0]
        if len(rest) == 1:
            return tuple(way[:place]) + tuple(items) + tuple(way[place + 1:])
        if way[place][0] == "many":
            way[place] = ("many", go(way[place][1], rest[1:]))
        else:
            ways = list(way[place][1])
            ways[rest[1]] = go(ways[rest[1]], rest[2:])
            way[place] = ("one", tuple(ways))
        return tuple(way)
    blocks[path[0]] = go(blocks[path[0]], path[1:])
    return program[0], program[1], tuple(tuple(way) for way in blocks)


def led_to(calls, start):
    found, ahead = set(), [start]
    while ahead:
        own = ahead.pop()
        for block, callee in calls:
            if block == own and callee not in found:
                found.add(callee)
                ahead.append(callee)
    return found


def programs(seed, many, **more):
    rng = rng_of(seed)
    for _ in range(many):
        yield random_program(rng, **more)


class Things(unittest.TestCase):

    def test_machines(self):
        for sample in (bus[0], deep[0], thrice[0], (5, (1, 0, None, 1), plain[:1]), (3, (None,), plain)):
            self.assertIs(is_machine(sample), True)
            for thing in things_like(sample):
                self.assertIs(is_machine(thing), predicates.machine(thing), thing)
        for prime in (2, 3, 5):
            self.assertTrue(is_machine((prime, (0,) * 1000, plain)))
        for thing in ((4, (0,), plain), (7, (0,), plain), (2, (1,), plain), (2, (0, 2), plain), (2, (), plain),
                      (2, (0,), ()), (2, (0,), (("put", 0),)), (2, (0,), (("put", 10),)), (2, (0,), (("look", 1),)),
                      (2, (0,), (("put", 1), ("put", 2))), (2, (0,), (("put", 1), ("pass", 2))), (2, (-1, 0), plain),
                      (2, (10 ** 30, 0), plain), (True, (0,), plain), (2, (False,), plain), (2, (0,), (("put", True),)),
                      (2, [0], plain), (2, (0,), [("put", 1)]), [2, (0,), plain], None, "machine", nest(30)):
            self.assertIs(is_machine(thing), False, thing)
        self.assertTrue(is_machine((2, (0,), (("put", 9),))))

    def test_programs(self):
        for sample in (bus, thrice, (deep[0], deep[1], ((), (("one", ((), (("many", ()),))),)))):
            self.assertIs(is_program(sample), True)
            for thing in things_like(sample):
                self.assertIs(is_program(thing), predicates.program(thing), thing)
        for program in programs(1, 300):
            self.assertIs(is_program(program), True, program)
            self.assertTrue(predicates.program(program))
        machine = deep[0]
        for dealt in ((), ((0,),), ((1, 0),), ((0, 0),), ((0, 3),), ((0, 1), (1, 2)), ((0, True),), [(0, 1)], ((0, -1),)):
            self.assertIs(is_program((machine, dealt, ((),))), False, dealt)
        self.assertIs(is_program((machine, ((0, 1),), ())), False)
        self.assertIs(is_program((machine, ((0, 1),), ((), ()))), True)

    def test_ways(self):
        machine = (3, (None, 0), plain)
        good = [(), (("set", 0, ()),), (("set", 1, ((0, 2), (1, 1))),), (("draw", 1),), (("call", 1, ()),),
                (("call", 0, (0, 1)),), (("one", ((), ())),), (("one", ((), (), (), ())),), (("many", ()),),
                (("many", (("one", ((("many", (("draw", 0),)),), ())),)),)]
        for way in good:
            self.assertIs(is_way(machine, 2, way), True, way)
            self.assertIs(is_way([3, [None, 0], [list(own) for own in plain]], 2, way), True)
            self.assertIs(is_way(machine, 2, list(way)), False)
            for thing in things_like(way):
                self.assertIs(is_way(machine, 2, thing), predicates.way(machine, 2, thing), thing)
        for item in (("set", 2, ()), ("set", 0, ((0, 0),)), ("set", 0, ((0, 3),)), ("set", 0, ((1, 1), (0, 1))),
                     ("set", 0, ((0, 1), (0, 2))), ("set", 0), ("draw", 2), ("draw", 0, ()), ("call", 2, ()), ("call", 0),
                     ("call", 0, (1, 0)), ("call", 0, (0, 0)), ("call", 0, (2,)), ("one", ((),)), ("one", ((),) * 5),
                     ("one", ()), ("many",), ("many", ((),)), ("back", 0, 0), ("set", 0, [(0, 1)]), ("set", -1, ()), (), "draw",
                     ("many", [])):
            self.assertIs(is_way(machine, 2, (item,)), False, item)
        self.assertIs(is_way(machine, 0, (("call", 0, ()),)), False)
        rng = rng_of(2)
        for _ in range(200):
            way = random_way(rng, machine, [0, 1, 2], 4, 3)
            self.assertIs(is_way(machine, 3, way), True)
            self.assertIs(is_way(machine, 2, way), predicates.way(machine, 2, way))
            self.assertIs(is_way((2,) + machine[1:], 3, way), predicates.way((2,) + machine[1:], 3, way))

    def test_beyond_bounds(self):
        wide = (2, tuple(range(50)), plain), tuple((2 * k, 2 * k + 1) for k in range(25)), ((("draw", 49),) * 500,) * 20
        self.assertTrue(is_program(wide))
        way = ()
        for _ in range(12):
            way = (("many", way),)
        self.assertTrue(is_program((deep[0], deep[1], (way,))))
        for thing in (None, True, 0, 10 ** 300, "", "program", [], nest(30), [[[]]], ((),) * 3, (1, 2, 3), [deep]):
            self.assertIs(is_program(thing), False)
            self.assertIs(is_machine(thing), False)


class Parts(unittest.TestCase):

    def test_items(self):
        for program in programs(3, 300):
            wanted = every_item(program)
            self.assertEqual(items_of(program), wanted)
            paths = [path for path, _ in wanted]
            self.assertEqual(paths, sorted(set(paths)))
            for path, item in wanted:
                self.assertEqual(item_at(program, path), item)
                self.assertEqual(item_at(program, list(path)), item)
        self.assertEqual(item_at(turned, (0, 0)), ("many", round_way))

    def test_writers_and_readers(self):
        for program in programs(4, 300):
            for slot in range(len(program[0][1])):
                writing, reading = [], []
                for path, item in every_item(program):
                    if item[:2] in (("set", slot), ("draw", slot)) or item[0] == "call" and slot in item[2]:
                        writing.append(path)
                    if item[0] == "set" and slot in dict(item[2]):
                        reading.append(path)
                self.assertEqual(writers(program, slot), tuple(writing))
                self.assertEqual(readers(program, slot), tuple(reading))

    def test_sizes_and_buses(self):
        for program in programs(5, 300):
            prime, lying, _ = program[0]
            buses = len({own for own in lying if own is not None})
            self.assertEqual(sizes(program), (len(lying), buses, prime ** (len(lying) + buses)))
            for number in range(buses):
                self.assertEqual(on_bus(program, number), tuple(k for k, own in enumerate(lying) if own == number))

    def test_calls(self):
        for program in programs(6, 400):
            calls = sorted({(path[0], item[1]) for path, item in every_item(program) if item[0] == "call"})
            self.assertEqual(block_calls(program), tuple(calls))
            many = range(len(program[2]))
            self.assertEqual(rings(program), tuple(own for own in many if own in led_to(calls, own)))
            self.assertEqual(reached(program), tuple(sorted({0} | led_to(calls, 0))))
            self.assertEqual(is_clean(program), len(reached(program)) == len(fruitful(program)) == len(many))

    def test_runs_of_blocks(self):
        ended = 0
        for program in programs(7, 400):
            blocks = program[2]
            for number, way in enumerate(blocks):
                found = way_runs_deep(blocks, way, 4)
                self.assertEqual(number in fruitful(program), found is not None, program)
                if number == 0:
                    self.assertEqual(shortest(program), None if found is None else found)
                    ended += found is not None
        self.assertGreater(ended, 200)

    def test_longest(self):
        seen = {True: 0, False: 0}
        for program in programs(8, 400, size=3):
            blocks, most = program[2], longest(program)
            if shortest(program) is None:
                self.assertIsNone(most)
                continue
            few, many = most_lines(blocks, len(blocks), 1), most_lines(blocks, 600, 600)
            self.assertEqual(most, few if few == many else None, program)
            if not rings(program):
                self.assertEqual(most, straight_longest(blocks, blocks[0]))
            seen[most is None] += 1
        self.assertGreater(min(seen.values()), 50)

    def test_longest_of_rings(self):
        machine, dealt = deep[0], deep[1]
        line, again = ("set", 0, ()), ("call", 0, ())
        cases = [
            (((("one", ((), (again,))),),), 0, 0),
            (((("one", ((line,), (again,))),),), 1, 1),
            (((("one", ((line,), (line, again))),),), 1, None),
            (((("one", ((), (again, ("call", 1, ())))),), (("one", ((), (again,))),)), 0, 0),
            (((("one", ((), (again, ("call", 1, ())))),), (("one", ((), (again, line))),)), 0, None),
            (((("one", ((), (("call", 0, (1,)),))),),), 0, None),
            (((again,),), None, None),
            (((line, ("one", ((line,), (again,), (line, line)))),), 2, None),
            (((("many", (("call", 1, ()),)),), (("call", 1, ()), line)), 0, 0),
            (((("many", (("call", 1, ()),)),), ()), 0, 0),
            (((("many", (("call", 1, (0,)),)),), ()), 0, None),
            (((("one", ((line,), (("call", 1, ()),) * 2)),), (("one", ((), (line, line), (("call", 1, ()),))),)), 0, 4),
            (((("one", ((line,), (("many", (line,)), ("call", 1, ())))),), (("call", 1, ()),)), 1, 1),
            (((("call", 1, ()),) * 12, (("call", 2, ()),) * 12, (("call", 3, ()),) * 12, (line,) * 12), 12 ** 4, 12 ** 4),
            (((("one", ((line,) * 12, (("call", 1, ()),))),), (("one", ((), (line, ("call", 1, ())))),)), 0, None),
            (((("one", ((line,) * 12, (("call", 1, ()),))),), (("call", 2, ()),), (("one", ((), (("many", (line,)),))),)), 0, None),
            (((("call", 1, ()),), (("call", 2, ()),), (("one", ((("call", 0, ()),), (("call", 3, ()),))),),
              (("one", ((), (("call", 3, ()), line))),)), 0, None),
        ]
        for blocks, least, most in cases:
            program = (machine, dealt, blocks)
            self.assertTrue(is_program(program))
            self.assertEqual((shortest(program), longest(program)), (least, most), blocks)

    def test_blocks_that_cannot_end(self):
        dead = (deep[0], deep[1], ((("call", 1, ()),), (("call", 1, ()),)))
        self.assertEqual((fruitful(dead), reached(dead), is_clean(dead), shortest(dead), longest(dead)),
                         ((), (0, 1), False, None, None))
        self.assertEqual((rings(dead), block_calls(dead)), ((1,), ((0, 1), (1, 1))))
        uncalled = (deep[0], deep[1], ((), ()))
        self.assertEqual((fruitful(uncalled), reached(uncalled), is_clean(uncalled)), ((0, 1), (0,), False))
        self.assertEqual((items_of(uncalled), writers(uncalled, 0), block_calls(uncalled)), ([], (), ()))
        self.assertFalse(is_clean(lost))


def way_runs_deep(blocks, way, depth):
    """The fewest lines of a run of the way in which calls are at most so deep; None without."""
    total = 0
    for item in way:
        own = 1
        if item[0] == "many":
            own = 0
        elif item[0] == "call":
            own = None if not depth else way_runs_deep(blocks, blocks[item[1]], depth - 1)
            own = None if own is None else own + len(item[2])
        elif item[0] == "one":
            every = [way_runs_deep(blocks, inner, depth) for inner in item[1]]
            own = min([more for more in every if more is not None], default=None)
        if own is None:
            return None
        total += own
    return total


def most_lines(blocks, depth, times):
    """The most lines of block 0, calls at most so deep, each "many" gone at most so many times; None without."""
    def of_way(way, table):
        lines = [of_item(item, table) for item in way]
        return None if None in lines else min(sum(lines), 10 ** 6)

    def of_item(item, table):
        if item[0] == "many":
            return (of_way(item[1], table) or 0) * times
        if item[0] == "call":
            return None if table[item[1]] is None else table[item[1]] + len(item[2])
        if item[0] == "one":
            return max([own for own in (of_way(way, table) for way in item[1]) if own is not None], default=None)
        return 1
    table = [None] * len(blocks)
    for _ in range(depth):
        table = [of_way(way, table) for way in blocks]
    return table[0]


def straight_longest(blocks, way):
    """The most lines of the way of blocks without rings; None if there is no most."""
    total = 0
    for item in way:
        own = 1
        if item[0] == "many":
            own = 0 if straight_longest(blocks, item[1]) == 0 else None
        elif item[0] == "call":
            own = straight_longest(blocks, blocks[item[1]])
            own = None if own is None else own + len(item[2])
        elif item[0] == "one":
            every = [straight_longest(blocks, inner) for inner in item[1]]
            own = None if None in every else max(every)
        if own is None:
            return None
        total += own
    return total


class Replaced(unittest.TestCase):

    def test_replaced(self):
        rng = rng_of(9)
        many = 0
        for program in programs(10, 200):
            for path, item in every_item(program):
                for items in ((), (item,), (item, ("draw", 0)), random_way(rng, program[0], [0], 3, 1)):
                    wanted = put_at(program, path, items)
                    self.assertEqual(replaced(program, path, items), wanted)
                    many += 1
                for items in ((("draw", 9),), (("call", 7, ()),), ("draw",), (("one", ((),)),), ((),), (("many", ()), 3)):
                    with self.assertRaises(Unfit):
                        replaced(program, path, items)
                self.assertEqual(replaced(program, list(path), [list(item)])[2], program[2])
        self.assertGreater(many, 1000)

    def test_no_item(self):
        for path in ((), (0,), (0, 1), (0, 0, 0), (0, -1), (-2, 0), (1, 0, 2, 0), (1, 0, 1, 9), (1, 0, 0), (10 ** 30, 0),
                     (1, 0, 1, 1, 0), (2, 0)):
            for call in (lambda: item_at(deep, path), lambda: replaced(deep, path, ()),
                         lambda: replaced(deep, list(path), (("draw", 9),))):
                with self.assertRaises(NoItem) as caught:
                    call()
                self.assertEqual(vars(caught.exception), {"path": path})
                self.assertIs(type(caught.exception.path), tuple)

    def test_no_number(self):
        for number in (-1, 3, 10 ** 30):
            for function in (writers, readers):
                with self.assertRaises(NoRegister) as caught:
                    function(deep, number)
                self.assertEqual(vars(caught.exception), {"number": number})
        for program, number in ((bus, 1), (bus, -1), (deep, 0), (renew, 10 ** 30)):
            with self.assertRaises(NoBus) as caught:
                on_bus(program, number)
            self.assertEqual(vars(caught.exception), {"number": number})

    def test_new_way(self):
        self.assertEqual(item_at(deep, (1, 0, 1, 3)), new_way[3])
        changed = replaced(deep, (1, 0, 1, 3), ())
        self.assertEqual(changed[2][1][0][1][1], new_way[:3])
        self.assertEqual(longest(changed), 3)


if __name__ == "__main__":
    unittest.main()
