"""[22]: SOURCES, beside playing them, and the programs that are compiled of them."""

import itertools
import unittest

from anydlooks.closed import withstands
from anydlooks.errors import CanNot, NoItem, NoRegister, TooMany, Unfit
from anydlooks.forms import is_telling
from anydlooks.least import cheapest_telling
from anydlooks.programs import is_clean, is_program
from anydlooks.runs import is_run, lines_of
from anydlooks.sources import (
    cell_ends, cell_forms, cells_of, compiled, is_source, least_parts, lines_from, source_lines, with_renew,
)
from predicates import below, is_set
from reckon import Play, is_number, rng_of, rows_of, secrets_by, source_count, things_like, way_runs
from samples import plain

PLUS = (2, 2, (0, 1), ((("set", 0, ((0, 1), (1, 1))),),))
ALL = (("pass", 1), ("put", 1), ("read", 2), ("turn", 1))
STYLES = ("apart", "lanes", "one bus")


def random_source_way(rng, prime, cells, callees, size, depth, words):
    way = []
    for _ in range(rng.randint(0, size)):
        word = rng.choice(words)
        if word in ("one", "many") and not depth or word == "call" and not callees:
            word = "renew" if "renew" in words else "set"
        if word == "set":
            picked = sorted(rng.sample(range(cells), rng.randint(0, min(3, cells))))
            way.append(("set", rng.randrange(cells), tuple((cell, rng.randint(1, prime - 1)) for cell in picked)))
        elif word == "renew":
            way.append(("renew", rng.randrange(cells)))
        elif word == "call":
            way.append(("call", rng.choice(callees)))
        else:
            ways = [random_source_way(rng, prime, cells, callees, 2, depth - 1, words) for _ in range(rng.randint(2, 3))]
            way.append(("one", tuple(ways)) if word == "one" else ("many", ways[0]))
    return tuple(way)


def random_source(rng, words=("set", "set", "set", "renew", "call", "one", "many"), rings=True, cells=None, size=3):
    while True:
        prime = rng.choice((2, 2, 3, 5))
        own = cells or rng.randint(1, {2: 4, 3: 3, 5: 2}[prime])
        inputs = tuple(sorted(rng.sample(range(own), rng.randint(1, own))))
        many, blocks = rng.randint(1, 3), []
        for number in range(many):
            callees = list(range(many)) if rings else list(range(number + 1, many))
            blocks.append(random_source_way(rng, prime, own, callees, size, 2, words))
        source = (prime, own, inputs, tuple(blocks))
        if is_source_by(source):
            return source


def items_in(way):
    for item in way:
        yield item
        for inner in (item[1] if item[0] == "one" else [item[1]] if item[0] == "many" else []):
            yield from items_in(inner)


def as_blocks(source):
    """WAYS for way_runs of the tests: a "renew" makes one line."""
    def changed(way):
        found = []
        for item in way:
            if item[0] == "call":
                found.append(("call", item[1], ()))
            elif item[0] == "renew":
                found.append(("draw", item[1]))
            elif item[0] == "one":
                found.append(("one", tuple(changed(own) for own in item[1])))
            elif item[0] == "many":
                found.append(("many", changed(item[1])))
            else:
                found.append(item)
        return tuple(found)
    return tuple(changed(way) for way in source[3])


def runs_of(source, lines=6, numbers=5, most=20):
    blocks = as_blocks(source)
    return [run for run, _ in way_runs(blocks, blocks[0], lines, numbers, 3)][:most]


class SourcePlay:
    """A SOURCE played with secrets."""

    def __init__(self, source, run, secrets):
        self.prime, cells, inputs, self.blocks = source
        self.run, self.cells, self.lines = list(run), [0] * cells, []
        for cell, secret in zip(inputs, secrets):
            self.cells[cell] = secret
        self.held = [tuple(self.cells)]
        self.way(self.blocks[0])
        assert not self.run

    def way(self, way):
        for item in way:
            if item[0] == "set":
                self.cells[item[1]] = sum(self.cells[own] * factor for own, factor in item[2]) % self.prime
                self.write(item)
            elif item[0] == "renew":
                self.write(("renew", item[1], ()))
            elif item[0] == "call":
                self.way(self.blocks[item[1]])
            else:
                number = self.run.pop(0)
                for own in [item[1][number]] if item[0] == "one" else [item[1]] * number:
                    self.way(own)

    def write(self, line):
        self.lines.append(line)
        self.held.append(tuple(self.cells))


def is_run_by(source, run):
    try:
        SourcePlay(source, run, [0] * len(source[2]))
    except (IndexError, AssertionError):
        return False
    return True


def forms_by(source, run):
    """The list of cell_forms, by playing once for each input."""
    inputs = source[2]
    plays = [SourcePlay(source, run, [int(own == k) for own in range(len(inputs))]) for k in range(len(inputs))]
    return [tuple(tuple(play.held[at][cell] for play in plays) for cell in range(source[1]))
            for at in range(len(plays[0].held))]


def is_source_by(thing):
    if type(thing) is not tuple or len(thing) != 4:
        return False
    prime, cells, inputs, blocks = thing
    if not is_number(prime) or prime not in (2, 3, 5) or not is_number(cells) or type(blocks) is not tuple or not blocks:
        return False
    if not is_set(inputs, lambda own: below(own, cells)) or inputs == ():
        return False

    def is_pair(own):
        return type(own) is tuple and len(own) == 2 and below(own[0], cells) and below(own[1], prime) and own[1] > 0

    def is_item(own):
        if type(own) is not tuple or not own or type(own[0]) is not str:
            return False
        if own[0] == "set" and len(own) == 3 and below(own[1], cells):
            return is_set(own[2], is_pair) and len({more[0] for more in own[2]}) == len(own[2])
        if len(own) != 2:
            return False
        if own[0] == "renew":
            return below(own[1], cells)
        if own[0] == "call":
            return below(own[1], len(blocks))
        if own[0] == "one":
            return type(own[1]) is tuple and len(own[1]) in (2, 3, 4) and all(is_way(way) for way in own[1])
        return own[0] == "many" and is_way(own[1])

    def is_way(own):
        return type(own) is tuple and all(is_item(more) for more in own)
    if not all(is_way(way) for way in blocks):
        return False
    return all(fruitful_by(blocks)) and reached_by(blocks) == set(range(len(blocks)))


def fruitful_by(blocks):
    good = [False] * len(blocks)

    def ends(way):
        return all(good[item[1]] if item[0] == "call" else any(map(ends, item[1])) if item[0] == "one" else True for item in way)
    for _ in blocks:
        good = [ends(way) for way in blocks]
    return good


def reached_by(blocks):
    found = {0}
    for _ in blocks:
        found |= {item[1] for number in found for item in items_in(blocks[number]) if item[0] == "call"}
    return found


def compiled_by(source, sorts, many, style):
    prime, cells, inputs, blocks = source
    spare = any(item[0] == "renew" for way in blocks for item in items_in(way))
    lying = []
    for cell in range(cells):
        for k in range(many):
            lying.append({"apart": None, "lanes": k, "one bus": 0}[style])
    if spare:
        lying.append(0 if style == "one bus" else None)

    def changed(way):
        found = []
        for item in way:
            if item[0] == "set":
                for k in range(many):
                    found.append(("set", item[1] * many + k, tuple((own * many + k, factor) for own, factor in item[2])))
            elif item[0] == "renew":
                first, last = item[1] * many, cells * many
                for k in range(1, many):
                    found += [("draw", last), ("set", first, ((first, 1), (last, 1))),
                              ("set", first + k, ((first + k, 1), (last, prime - 1)))]
            elif item[0] == "call":
                found.append(("call", item[1], ()))
            elif item[0] == "one":
                found.append(("one", tuple(changed(own) for own in item[1])))
            else:
                found.append(("many", changed(item[1])))
        return tuple(found)
    dealt = tuple(tuple(range(cell * many, cell * many + many)) for cell in inputs)
    return (prime, tuple(lying), sorts), dealt, tuple(changed(way) for way in blocks)


def is_too_large(source, many, style):
    program = compiled_by(source, plain, many, style)
    lying = program[0][1]
    return source[0] ** (len(lying) + len({bus for bus in lying if bus is not None})) > 32


class Sources(unittest.TestCase):

    def test_is_source(self):
        rng = rng_of(1)
        for _ in range(60):
            source = random_source(rng)
            self.assertIs(is_source(source), True)
            things = things_like(source)
            for thing in rng.sample(things, min(150, len(things))):
                self.assertIs(is_source(thing), is_source_by(thing), thing)

    def test_unclean(self):
        for blocks, good in (
                (((),), True), (((("call", 0),),), False), (((("one", ((), (("call", 0),))),),), True),
                (((), ()), False), (((("call", 1),), ()), True), (((("many", (("call", 1),)),), (("call", 1),)), False),
                (((("many", (("call", 0),)),),), True), (((("call", 1), ("call", 2)), (), (("call", 2),)), False)):
            self.assertIs(is_source((2, 1, (0,), blocks)), good, blocks)

    def test_edges(self):
        way = ((("set", 0, ()),),)
        for thing, good in (
                ((2, 10 ** 900, (0, 10 ** 900 - 1), way), True), ((2, 10 ** 30, (10 ** 30,), way), False), ((2, 0, (), way), False),
                ((2, 1, (), way), False), ((2, 2, (1, 0), way), False), ((2, 2, (0, 0), way), False), ((4, 1, (0,), way), False),
                ((2, True, (0,), way), False), ((2, 1, (0,), ()), False), ((3, 2, (1,), ((("set", 0, ((0, 2), (1, 1))),),)), True),
                ((3, 2, (1,), ((("set", 0, ((0, 3),)),),)), False), ((3, 2, (1,), ((("set", 0, ((0, 0),)),),)), False),
                ((3, 2, (1,), ((("set", 0, ((0, 1), (0, 2))),),)), False), ((2, 1, (0,), ((("renew", 1),),)), False),
                ((2, 1, (0,), ((("draw", 0),),)), False), ((2, 1, (0,), ((("call", 0, ()),),)), False),
                ((2, 1, (0,), ((("one", ((),)),),)), False), ((2, 1, (0,), ((("one", ((),) * 4),),)), True),
                ((2, 1, (0,), ((("one", ((),) * 5),),)), False), ((2, 1, (0,), ((("times", (), 2),),)), False),
                ((-2, 1, (0,), way), False), ((2, -1, (0,), way), False), ((2, 1, (-1,), way), False)):
            self.assertIs(is_source(thing), good, thing)

    def test_deep(self):
        way, own = (), ()
        for _ in range(13):
            way = (("many", way),)
        self.assertIs(is_source((2, 1, (0,), (way,))), True)
        for _ in range(27):
            own = (own,)
        self.assertIs(is_source((2, 1, (0,), own)), False)

    def test_lines_and_forms(self):
        rng, renews = rng_of(2), 0
        for _ in range(80):
            source = random_source(rng)
            for run in runs_of(source):
                secrets = [rng.randrange(source[0]) for _ in source[2]]
                play = SourcePlay(source, run, secrets)
                self.assertEqual(source_lines(source, run), play.lines)
                forms = cell_forms(source, run)
                self.assertEqual(forms, forms_by(source, run))
                for held, told in zip(play.held, forms):
                    self.assertEqual(held, tuple(sum(a * b for a, b in zip(own, secrets)) % source[0] for own in told))
                renews += any(line[0] == "renew" for line in play.lines)
        self.assertGreater(renews, 100)

    def test_cell_ends(self):
        """Beside all RUNS of sources of few, and small ones of others."""
        rng, several = rng_of(3), 0
        for tried in range(120):
            finite = tried % 2 == 0
            words = ("set", "set", "renew", "call", "one") if finite else ("set", "set", "renew", "call", "one", "many")
            source = random_source(rng, words=words, rings=not finite)
            blocks = as_blocks(source)
            runs = [run for run, _ in way_runs(blocks, blocks[0], 40 if finite else 7, 40 if finite else 5, 3)]
            if len(runs) > 300:
                continue
            ends = [forms_by(source, run)[-1] for run in runs]
            for cell in range(source[1]):
                wanted, found = {own[cell] for own in ends}, cell_ends(source, cell)
                self.assertEqual(found, tuple(sorted(set(found))))
                if finite:
                    self.assertEqual(found, tuple(sorted(wanted)), source)
                else:
                    self.assertLessEqual(wanted, set(found))
                several += len(found) > 1
        self.assertGreater(several, 20)

    def test_far_ends(self):
        """Ends that only long RUNS have: five times one more; and far behind a ring."""
        source = (5, 2, (1,), ((("many", (("set", 0, ((0, 1), (1, 1))),)),),))
        self.assertEqual(cell_ends(source, 0), tuple((k,) for k in range(5)))
        self.assertEqual(cell_ends(source, 1), ((1,),))
        source = (3, 2, (0,), ((("one", ((), (("set", 1, ((0, 1), (1, 1))), ("renew", 0), ("call", 0)))),),))
        self.assertEqual((cell_ends(source, 1), cell_ends(source, 0)), (((0,), (1,), (2,)), ((1,),)))

    def test_errors(self):
        source = (2, 2, (0,), ((("many", (("set", 0, ()),)),),))
        for run in ((), (1, 1), (-1,), (True,)[:0], (0, 0)):
            for call in (lambda run: source_lines(source, run), lambda run: cell_forms(source, run),
                         lambda run: lines_from(source, run, 2)):
                with self.assertRaises(Unfit):
                    call(run)
        for cell in (2, -1, 10 ** 30):
            with self.assertRaises(NoRegister) as caught:
                cell_ends(source, cell)
            self.assertEqual(vars(caught.exception), {"number": cell})


class Compiled(unittest.TestCase):

    def test_compiled(self):
        rng, made = rng_of(4), {style: 0 for style in STYLES}
        for _ in range(300):
            source = random_source(rng, cells=rng.choice((1, 1, 2)))
            sorts = tuple(sorted(rng.sample(ALL, rng.randint(1, 4))))
            for many, style in itertools.product(range(2, 6), STYLES):
                if is_too_large(source, many, style):
                    with self.assertRaises(TooMany):
                        compiled(source, sorts, many, style)
                else:
                    program = compiled(source, sorts, many, style)
                    self.assertEqual(program, compiled_by(source, sorts, many, style))
                    self.assertIs(is_program(program), True)
                    self.assertIs(is_clean(program), True)
                    made[style] += 1
        self.assertGreater(min(made.values()), 30)

    def test_same_runs_and_parts(self):
        """Both have the same RUNS; the parts of each cell add up to what it holds, behind each LINE."""
        rng, tried = rng_of(5), 0
        while tried < 120:
            source = random_source(rng, cells=rng.choice((1, 1, 2)), size=2)
            many, style = rng.randint(2, 4), rng.choice(STYLES)
            if is_too_large(source, many, style):
                continue
            program = compiled(source, plain, many, style)
            for run in runs_of(source, most=6):
                tried += 1
                self.assertIs(is_run(program, run), True)
                for wrong in (run + (0,), run[:-1], tuple(own + 1 for own in run)):
                    self.assertIs(is_run(program, wrong), is_run_by(source, wrong))
                values = [rng.randrange(source[0]) for _ in range(source_count(program, run))]
                play = Play(program, run, values)
                own = SourcePlay(source, run, secrets_by(program, values))
                numbers = lines_from(source, run, many)
                self.assertEqual([number for more in numbers for number in more], list(range(len(play.lines))))
                self.assertEqual(len(numbers), len(own.lines))
                places = [0] + [more[-1] + 1 for more in numbers]
                for place, held in zip(places, own.held):
                    self.assertEqual(cells_of(source, many, play.ahead[place][0]), held)
                for line, more in zip(own.lines, numbers):
                    words = [play.lines[number][0] for number in more]
                    self.assertEqual(words, ["set"] * many if line[0] == "set" else ["draw", "set", "set"] * (many - 1))

    def test_no_telling_of_few_marks(self):
        """Without a "renew", by "apart" and "lanes", whatever the sorts."""
        rng, tried = rng_of(6), 0
        words = ("set", "set", "set", "call", "one", "many")
        while tried < 40:
            source = random_source(rng, words=words, cells=rng.choice((1, 1, 2)))
            many, style = rng.randint(2, 4), rng.choice(("apart", "lanes"))
            if is_too_large(source, many, style):
                continue
            sorts = tuple((word, 1) for word, _ in ALL if rng.random() < 0.7) or (("put", 1),)
            program = compiled(source, sorts, many, style)
            told = cheapest_telling(program)
            self.assertTrue(told is None or len(told[1]) >= many)
            self.assertIs(withstands(program, many - 1), True)
            if told:
                tried += 1
                self.assertIs(is_telling(program, told), True)

    def test_cells_of(self):
        """Whatever stands behind, and also if there would be too many."""
        self.assertEqual(cells_of((3, 3, (0,), ((),)), 4, (1, 2, 2, 2, 0, 0, 0, 2, 1, 1, 1, 1, 2)), (1, 2, 1))
        self.assertEqual(cells_of((2, 40, (0,), ((),)), 50, (1,) * 2000), (0,) * 40)
        source = (2, 9, (0,), ((("set", 3, ()), ("renew", 8), ("set", 1, ())),))
        self.assertEqual(lines_from(source, (), 7), [tuple(range(7)), tuple(range(7, 25)), tuple(range(25, 32))])
        for style in STYLES:
            with self.assertRaises(TooMany):
                compiled(source, plain, 7, style)

    def test_least_parts(self):
        rng, told = rng_of(7), {}
        for _ in range(150):
            source = random_source(rng, cells=rng.choice((1, 1, 1, 2)), size=2)
            sorts, style, most = tuple(sorted(rng.sample(ALL, rng.randint(1, 3)))), rng.choice(STYLES), rng.randint(0, 4)
            wanted, many = None, 2
            while wanted is None and not is_too_large(source, many, style):
                if withstands(compiled(source, sorts, many, style), most):
                    wanted = many
                many += 1
            told[wanted] = told.get(wanted, 0) + 1
            if wanted is None:
                with self.assertRaises(CanNot):
                    least_parts(source, sorts, style, most)
            else:
                self.assertEqual(least_parts(source, sorts, style, most), wanted)
        self.assertGreater(min(told[key] for key in (None, 2, 3)), 2)

    def test_style_first(self):
        large = (2, 30, (0,), ((),))
        for style in ("", "one", "bus", "onebus", "Apart", "lane", "one  bus"):
            for source in (large, PLUS):
                with self.assertRaises(Unfit):
                    compiled(source, plain, 2, style)
                with self.assertRaises(Unfit):
                    least_parts(source, plain, style, 1)
        with self.assertRaises(CanNot):
            least_parts(large, plain, "apart", 1)
        with self.assertRaises(TooMany):
            compiled(PLUS, plain, 10 ** 6, "one bus")

    def test_limits(self):
        """p to registers and buses is 32 at most: 5 of them for 2, 3 for 3, 2 for 5."""
        quiet, renewing = ((),), ((("renew", 0),),)
        for prime, blocks, many, style, good in (
                (2, quiet, 5, "apart", True), (2, quiet, 6, "apart", False), (2, renewing, 4, "apart", True),
                (2, renewing, 5, "apart", False), (2, quiet, 2, "lanes", True), (2, renewing, 2, "lanes", True),
                (2, quiet, 3, "lanes", False), (2, quiet, 4, "one bus", True), (2, quiet, 5, "one bus", False),
                (3, quiet, 3, "apart", True), (3, quiet, 4, "apart", False), (3, quiet, 2, "one bus", True),
                (3, renewing, 2, "one bus", False), (5, quiet, 2, "apart", True), (5, renewing, 2, "apart", False)):
            if good:
                compiled((prime, 1, (0,), blocks), plain, many, style)
            else:
                with self.assertRaises(TooMany):
                    compiled((prime, 1, (0,), blocks), plain, many, style)

    def test_with_renew(self):
        source = (2, 3, (0,), ((("set", 0, ()), ("one", ((("call", 1),), ()))), (("many", (("renew", 2),)),)))
        for path, wanted in (
                ((0, 0), ((("renew", 1), ("set", 0, ()), source[3][0][1]), source[3][1])),
                ((0, 2), ((*source[3][0], ("renew", 1)), source[3][1])),
                ((0, 1, 0, 1), ((("set", 0, ()), ("one", ((("call", 1), ("renew", 1)), ()))), source[3][1])),
                ((0, 1, 1, 0), ((("set", 0, ()), ("one", ((("call", 1),), (("renew", 1),)))), source[3][1])),
                ((1, 0, 0), (source[3][0], (("many", (("renew", 1), ("renew", 2))),))),
                ((1, 1), (source[3][0], (*source[3][1], ("renew", 1))))):
            found = with_renew(source, path, 1)
            self.assertEqual(found, (2, 3, (0,), wanted))
            self.assertIs(is_source(found), True)
        for path in ((), (0,), (2, 0), (0, 3), (0, 1, 2, 0), (0, 1, 0, 2), (1, 0, 2), (0, 1, 0), (0, -1), (0, 10 ** 30), (0, 0, 0),
                     (False, 0), (0, False), (0, True, 0, False)):
            for cell in (0, 7):
                with self.assertRaises(NoItem) as caught:
                    with_renew(source, list(path), cell)
                self.assertEqual(vars(caught.exception), {"path": path})
        for cell in (3, -1, 10 ** 30):
            with self.assertRaises(NoRegister) as caught:
                with_renew(source, (0, 0), cell)
            self.assertEqual(vars(caught.exception), {"number": cell})

    def test_renew_changes_nothing(self):
        rng = rng_of(8)
        for _ in range(40):
            source = random_source(rng, rings=False)
            path = (0, rng.randint(0, len(source[3][0])))
            found = with_renew(source, path, rng.randrange(source[1]))
            for cell in range(source[1]):
                self.assertEqual(cell_ends(found, cell), cell_ends(source, cell))
            for run in runs_of(source, most=4):
                self.assertEqual(cell_forms(found, run)[-1], cell_forms(source, run)[-1])

    def test_all_values(self):
        """All secrets of plus, by all parts."""
        program = compiled(PLUS, plain, 2, "one bus")
        for values in rows_of(2, 4):
            play = Play(program, (), values)
            one, two = secrets_by(program, values)
            self.assertEqual(cells_of(PLUS, 2, play.slots), ((one + two) % 2, two))
        self.assertEqual(len(lines_of(program, ())), 2)


if __name__ == "__main__":
    unittest.main()
