"""[26]: a Board beside a ledger of the tests' own."""

import copy
import unittest

from anydlooks.board import Board
from anydlooks.errors import CanNot, NoBlock, NoItem, NoRegister, NothingDone, TooMany, Unfit
from anydlooks.least import cheapest_telling, least_price
from anydlooks.programs import is_clean
from anydlooks.runs import line_paths
from anydlooks.sums import form_price
import predicates
from reckon import is_number, length_of, random_program, random_way, rng_of, rows_of, things_like
from samples import bus, deep, fork, lost, meet, plain, renew, thrice, tiny, turned, twin
from whole import finite_programs, tellings

SAMPLES = (bus, deep, fork, lost, meet, renew, thrice, tiny, turned, twin)


def items_within(way):
    """How many ITEMS, the most of one WAY, how many "one" and "many" lie within one another."""
    count, widest, depth = len(way), len(way), 0
    for item in way:
        if item[0] in ("one", "many"):
            for inner in (item[1] if item[0] == "one" else [item[1]]):
                more, wide, deeper = items_within(inner)
                count, widest, depth = count + more, max(widest, wide), max(depth, deeper + 1)
    return count, widest, depth


def is_let(program):
    """Whether it is a PROGRAM within the bounds of [3]."""
    if not predicates.program(program) or program[0][0] ** length_of(program[0]) > 32:
        return False
    told = [items_within(way) for way in program[2]]
    return (len(program[1]) <= 4 and len(program[2]) <= 6 and sum(own[0] for own in told) <= 40
            and max(own[1] for own in told) <= 12 and max(own[2] for own in told) <= 4)


def frozen(thing):
    return tuple(map(frozen, thing)) if isinstance(thing, (list, tuple)) else thing


def all_paths(program):
    """The ITEMS by their paths."""
    found = {}

    def go(prefix, way):
        for place, item in enumerate(way):
            found[prefix + (place,)] = item
            if item[0] == "one":
                for number, inner in enumerate(item[1]):
                    go(prefix + (place, number), inner)
            elif item[0] == "many":
                go(prefix + (place,), item[1])
    for number, way in enumerate(program[2]):
        go((number,), way)
    return found


def with_items(program, path, items):
    def changed(way, rest):
        place = rest[0]
        if len(rest) == 1:
            return way[:place] + items + way[place + 1:]
        item = way[place]
        if item[0] == "many":
            return way[:place] + (("many", changed(item[1], rest[1:])),) + way[place + 1:]
        ways = tuple(changed(own, rest[2:]) if number == rest[1] else own for number, own in enumerate(item[1]))
        return way[:place] + (("one", ways),) + way[place + 1:]
    blocks = program[2]
    return program[0], program[1], blocks[:path[0]] + (changed(blocks[path[0]], path[1:]),) + blocks[path[0] + 1:]


def called(way):
    for item in way:
        if item[0] == "call":
            yield item[1]
        for inner in (item[1] if item[0] == "one" else [item[1]] if item[0] == "many" else []):
            yield from called(inner)


def called_less(way, block):
    found = []
    for item in way:
        if item[0] == "call":
            item = ("call", item[1] - (item[1] > block), item[2])
        elif item[0] == "one":
            item = ("one", tuple(called_less(own, block) for own in item[1]))
        elif item[0] == "many":
            item = ("many", called_less(item[1], block))
        found.append(item)
    return tuple(found)


class Ledger:
    """What a Board is to hold, deed by deed: all states there were, and where one stands."""

    def __init__(self, program):
        self.states, self.at = [(program, ())], 0

    @property
    def now(self):
        return self.states[self.at]

    def deed(self, word, *what):
        """Does the deed, or tells the error that is to be raised."""
        if word in ("undo", "redo"):
            to = self.at + (1 if word == "redo" else -1)
            if not 0 <= to < len(self.states):
                return NothingDone()
            self.at = to
            return None
        made = getattr(self, "made_" + word)(*map(frozen, what))
        if isinstance(made, Exception):
            return made
        if word not in ("watch", "unwatch") and not is_let(made[0]):
            return Unfit()
        self.states[self.at + 1:] = [made]
        self.at += 1
        return None

    def made_put(self, path, items):
        (program, watches) = self.now
        if type(path) is not tuple or not all(map(is_number, path)) or path not in all_paths(program):
            return NoItem(path)
        if type(items) is not tuple:
            return Unfit()
        return with_items(program, path, items), watches

    def made_put_block(self, block, way):
        (machine, dealt, blocks), watches = self.now
        if not predicates.below(block, len(blocks)):
            return NoBlock(block)
        return (machine, dealt, blocks[:block] + (way,) + blocks[block + 1:]), watches

    def made_add_block(self, way):
        (machine, dealt, blocks), watches = self.now
        return (machine, dealt, blocks + (way,)), watches

    def made_drop_block(self, block):
        (machine, dealt, blocks), watches = self.now
        if not predicates.below(block, len(blocks)):
            return NoBlock(block)
        rest = blocks[:block] + blocks[block + 1:]
        if block == 0 or any(block in called(way) for way in rest):
            return Unfit()
        return (machine, dealt, tuple(called_less(way, block) for way in rest)), watches

    def made_lay(self, slot, bus):
        ((prime, lying, sorts), dealt, blocks), watches = self.now
        if not predicates.below(slot, len(lying)):
            return NoRegister(slot)
        return ((prime, lying[:slot] + (bus,) + lying[slot + 1:], sorts), dealt, blocks), watches

    def made_price(self, word, price):
        ((prime, lying, sorts), dealt, blocks), watches = self.now
        prices = dict(sorts)
        prices[word] = price
        sorts = tuple(sorted((own, more) for own, more in prices.items() if more is not None))
        return ((prime, lying, sorts), dealt, blocks), watches

    def made_deal(self, dealt):
        (machine, _, blocks), watches = self.now
        return (machine, dealt, blocks), watches

    def made_watch(self, form, most):
        program, watches = self.now
        good = form is None or predicates.residues(form, program[0][0], len(program[1])) and any(form)
        if not good or not predicates.below(most, 7):
            return Unfit()
        return program, watches + ((form, most),)

    def made_unwatch(self, place):
        program, watches = self.now
        if not predicates.below(place, len(watches)):
            return Unfit()
        return program, watches[:place] + watches[place + 1:]


def random_items(rng, program):
    blocks = list(range(len(program[2])))
    way = random_way(rng, program[0], blocks, 2, 1)
    return rng.choice((way, way, list(way), (("set", 9, ()),), None, ("draw", 0)) if rng.random() < 0.3 else (way,))


def random_deed(rng, program, watches):
    """A deed and its arguments, most of them such as can be done."""
    slots, many = len(program[0][1]), len(program[2])
    word = rng.choice(("put", "put", "put", "put_block", "add_block", "drop_block", "lay", "lay", "price", "deal", "watch", "watch",
                       "unwatch", "undo", "undo", "redo"))
    if word == "put":
        paths = list(all_paths(program)) or [(0,)]
        path = rng.choice(paths) if rng.random() < 0.9 else rng.choice(((), (0,), (0, 40), (9, 0), (0, -1), rng.choice(paths) + (0,)))
        return word, path, random_items(rng, program)
    if word in ("put_block", "add_block"):
        way = random_items(rng, program)
        return (word, rng.choice((*range(many), many, -1)), way) if word == "put_block" else (word, way)
    if word == "drop_block":
        return word, rng.choice((*range(many), many, -1))
    if word == "lay":
        return word, rng.choice((*range(slots), slots, -1)), rng.choice((None, 0, 0, 1, 1, 2, 3, -1))
    if word == "price":
        return word, rng.choice(("pass", "put", "read", "turn", "other")), rng.choice((None, 1, 2, 3, 9, 0, 10, -1))
    if word == "deal":
        order = rng.sample(range(slots), slots)
        dealt = [sorted(order[:2]), sorted(order[2:4])][:rng.randint(0, 2)]
        return word, dealt
    if word == "watch":
        form = rng.choice((None, rng.choice(rows_of(program[0][0], len(program[1]))), (1,), [1, 0]))
        return word, form, rng.choice((0, 1, 2, 3, 6, 7, -1))
    if word == "unwatch":
        return word, rng.choice((0, 0, 1, 2, -1, 10 ** 30))
    return (word,)


def do(board, deed):
    """The error that a deed raises; None without."""
    before = (board.program(), board.watches())
    given = copy.deepcopy(deed)
    try:
        told = getattr(board, deed[0])(*deed[1:])
    except (NoBlock, NoItem, NoRegister, NothingDone, Unfit) as error:
        assert (board.program(), board.watches()) == before
        return error
    assert told is None and given == deed
    return None


class Deeds(unittest.TestCase):

    def same(self, board, ledger):
        self.assertEqual((board.program(), tuple(board.watches())), ledger.now)
        self.assertEqual(board.clean(), is_clean(ledger.now[0]))

    def same_error(self, error, wanted, deed):
        self.assertIs(type(error), type(wanted), deed)
        if wanted is not None:
            self.assertEqual(vars(error), vars(wanted))

    def test_beside_a_ledger(self):
        rng, told = rng_of(1), {}
        for start in range(60):
            program = rng.choice(SAMPLES) if start % 2 else random_program(rng)
            board, ledger = Board(program), Ledger(program)
            for _ in range(60):
                deed = random_deed(rng, *ledger.now)
                wanted = ledger.deed(*deed)
                error = do(board, deed)
                self.same_error(error, wanted, deed)
                self.same(board, ledger)
                key = (deed[0], type(wanted).__name__)
                told[key] = told.get(key, 0) + 1
        for word in ("put", "put_block", "add_block", "drop_block", "lay", "price", "deal", "watch", "unwatch", "undo", "redo"):
            self.assertGreater(told.get((word, "NoneType"), 0), 5, word)
            errors = {"undo": ("NothingDone",), "redo": ("NothingDone",), "put": ("NoItem", "Unfit"), "lay": ("NoRegister", "Unfit"),
                      "put_block": ("NoBlock", "Unfit"), "drop_block": ("NoBlock", "Unfit")}.get(word, ("Unfit",))
            for error in errors:
                self.assertGreater(told.get((word, error), 0), 3, (word, error))

    def test_taken_back_and_done_again(self):
        rng = rng_of(2)
        for _ in range(30):
            program = rng.choice(SAMPLES)
            board, states = Board(program), []
            for _ in range(12):
                if do(board, random_deed(rng, board.program(), board.watches())) is None:
                    states.append((board.program(), board.watches()))
            board, done = Board(program), []
            for _ in range(40):
                deed = random_deed(rng, board.program(), board.watches())
                if deed[0] not in ("undo", "redo") and do(board, deed) is None:
                    done.append((board.program(), board.watches()))
            for number in range(len(done) - 2, -2, -1):
                board.undo()
                self.assertEqual((board.program(), board.watches()), done[number] if number >= 0 else (program, []))
            with self.assertRaises(NothingDone):
                board.undo()
            for state in done:
                board.redo()
                self.assertEqual((board.program(), board.watches()), state)
            with self.assertRaises(NothingDone):
                board.redo()

    def test_ends_what_can_be_done_again(self):
        """Also a deed by which nothing changes; not one that is refused."""
        for deed, ends in ((("price", "put", 1), True), (("price", "read", None), True), (("lay", 0, None), True), (("put", (0, 0), (bus[2][0][0],)), True),
                           (("watch", None, 9), False), (("drop_block", 0), False), (("put", (7,), ()), False), (("watch", None, 1), True)):
            board = Board(bus)
            board.watch((1,), 2)
            board.undo()
            do(board, deed)
            if ends:
                with self.assertRaises(NothingDone):
                    board.redo()
                board.undo()
                self.assertEqual((board.program(), board.watches()), (bus, []))
                board.redo()
            else:
                board.redo()
                self.assertEqual(board.watches(), [((1,), 2)])

    def test_bounds(self):
        """Each of the bounds of [3], but those of RUNS."""
        lines, machine = (("set", 0, ()),), (2, (None,) * 5, plain)
        wide = machine, ((0, 1), (2, 3)), (lines * 12, lines * 12, lines * 12, lines * 4)
        self.unfit(wide, (("put", (0, 0), lines * 2), ("put", (3, 0), lines * 2), ("add_block", lines), ("put_block", 3, lines * 5), ("lay", 0, 0)))
        self.fit(wide, (("put", (0, 0), lines), ("put", (0, 0), ()), ("put_block", 3, lines * 4), ("add_block", ()), ("deal", ((0, 1, 2, 3, 4),))))
        six = machine, ((0, 1),), ((),) * 6
        self.unfit(six, (("add_block", ()),))
        self.fit(six, (("drop_block", 5), ("put_block", 2, lines * 12)))
        four = ("many", (("one", ((("many", (("many", ()),)),), ())),))
        nested = machine, ((0, 1),), ((four,),)
        self.unfit(nested, (("put", (0, 0, 0, 0, 0, 0), (("many", (("many", ()),)),)), ("add_block", (("many", (four,)),))))
        self.fit(nested, (("put", (0, 0, 0, 0, 0, 0), (("set", 0, ()), ("many", lines))), ("add_block", (four, four))))
        inner = machine, ((0, 1),), ((("one", (lines * 12, lines * 12, lines * 11)),), lines * 3)
        self.unfit(inner, (("put", (0, 0, 2, 0), lines * 3), ("put", (1, 0), lines * 3), ("put", (0, 0, 0, 0), lines * 2)))
        self.fit(inner, (("put", (0, 0, 2, 0), lines * 2), ("put", (1, 0), lines * 2)))
        eight = (2, (None,) * 5, plain), ((0, 1), (2, 3)), ((),)
        self.unfit(eight, (("deal", ((0, 1), (1, 2))), ("deal", ()), ("deal", ((0,),)), ("deal", ((0, 5),)), ("deal", None)))
        many = (2, (None,) * 10, plain), ((0, 1),) , ((),)
        self.unfit(many, (("deal", ((0, 1), (2, 3), (4, 5), (6, 7), (8, 9))), ("deal", ((0, 1),))))
        small = (3, (None, None, 0), plain[:2]), ((0, 1),), ((),)
        self.unfit(small, (("lay", 0, 1), ("lay", 0, 2)))

    def unfit(self, program, deeds):
        for deed in deeds:
            board = Board(program)
            self.same_error(do(board, deed), Unfit(), deed)
            with self.assertRaises(NothingDone):
                board.undo()

    def fit(self, program, deeds):
        for deed in deeds:
            board = Board(program)
            self.assertIsNone(do(board, deed), deed)
            board.undo()
            self.assertEqual(board.program(), program)

    def test_lay(self):
        two = (2, (None, 0, 1), plain), ((0, 1),), ((),)
        for slot, where, wanted in ((1, None, None), (2, None, (None, 0, None)), (2, 0, (None, 0, 0)), (1, 1, None), (0, 0, (0, 0, 1)), (0, 1, (1, 0, 1)),
                                    (0, 2, None), (0, 3, None), (1, 2, None), (2, 2, None), (0, -1, None), (0, True, None), (0, None, (None, 0, 1))):
            board = Board(two)
            if wanted is None:
                with self.assertRaises(Unfit):
                    board.lay(slot, where)
            else:
                board.lay(slot, where)
                self.assertEqual(board.program()[0][1], wanted)
        board = Board(((2, (None, 0, 0), plain), ((0, 1),), ((),)))
        board.lay(1, 1)
        self.assertEqual(board.program()[0][1], (None, 1, 0))
        for slot in (3, -1, 10 ** 30):
            with self.assertRaises(NoRegister) as caught:
                board.lay(slot, 10 ** 30)
            self.assertEqual(vars(caught.exception), {"number": slot})

    def test_things(self):
        """ITEMS, WAYS, SHARINGS of every kind."""
        rng = rng_of(3)
        items = (("set", 0, ((0, 1), (2, 1))), ("one", ((("draw", 1),), (("call", 1, (0,)),))), ("many", ()))
        things = things_like(items)
        for thing in rng.sample(things, 250):
            for deed in (("put", (1, 0, 1, 2), thing), ("put_block", 1, thing), ("add_block", thing), ("deal", thing)):
                self.same_error(do(Board(deep), deed), Ledger(deep).deed(*deed), deed)
        for thing in things_like((1, 0)):
            for deed in (("watch", thing, 3), ("deal", (thing,))):
                self.same_error(do(Board(twin), deed), Ledger(twin).deed(*deed), deed)
        for thing in things_like((1, 0, 1, 2)):
            deed = ("put", thing, ())
            self.same_error(do(Board(deep), deed), Ledger(deep).deed(*deed), deed)


class Looks(unittest.TestCase):

    def test_beside_all_tellings(self):
        """Where there are few RUNS: prices and watches beside all TELLINGS."""
        rng, broken = rng_of(4), 0
        for program, lines in finite_programs(rng, 40, terms=250):
            prices = {}
            for run, terms, form in tellings(program, lines):
                own = sum(dict(program[0][2])[mark[1]] for mark, _ in terms)
                prices[form] = min(own, prices.get(form, own))
            board = Board(program)
            self.assertEqual(board.least_price(), min(prices.values(), default=None))
            forms = [form for form in rows_of(program[0][0], len(program[1])) if any(form)]
            watches = [(rng.choice((None, rng.choice(forms))), rng.randint(0, 6)) for _ in range(5)]
            for form, most in watches:
                board.watch(form, most)
            wanted = tuple(place for place, (form, most) in enumerate(watches)
                           if any(own <= most for told, own in prices.items() if form in (None, told)))
            self.assertEqual(board.broken(), wanted)
            broken += len(wanted)
        self.assertGreater(broken, 30)

    def test_beside_the_points(self):
        rng, told, none = rng_of(5), 0, 0
        for start in range(60):
            program = SAMPLES[start % len(SAMPLES)] if start < 20 else random_program(rng, size=3)
            board = Board(program)
            for _ in range(3):
                do(board, random_deed(rng, board.program(), board.watches()))
            self.looks(board)
            told += board.clean()
            none += not board.clean()
        self.assertGreater(min(told, none), 10)

    def looks(self, board):
        program, watches = board.program(), board.watches()
        if not is_clean(program):
            for call in (board.cheapest, board.least_price, board.weak, board.broken):
                with self.assertRaises(CanNot) as caught:
                    call()
                self.assertEqual(vars(caught.exception), {})
            return
        self.assertEqual(board.least_price(), least_price(program))
        prices = [least_price(program) if form is None else form_price(program, form) if len(form) == len(program[1]) else None
                  for form, _ in watches]
        self.assertEqual(board.broken(), tuple(k for k, own in enumerate(prices) if own is not None and own <= watches[k][1]))
        try:
            cheapest = cheapest_telling(program)
        except TooMany:
            for call in (board.cheapest, board.weak):
                with self.assertRaises(TooMany):
                    call()
            return
        self.assertEqual(board.cheapest(), cheapest)
        paths = line_paths(program, cheapest[0]) if cheapest else ()
        self.assertEqual(board.weak(), tuple(sorted({paths[mark[0]] for mark, _ in cheapest[1]})) if cheapest else ())

    def test_effect(self):
        """As they would be behind the put; nothing is done."""
        rng, told = rng_of(6), {}
        for _ in range(1200):
            board = Board(rng.choice(SAMPLES))
            for _ in range(rng.randint(0, 2)):
                board.watch(None, rng.randint(0, 4))
            if rng.random() < 0.5:
                do(board, random_deed(rng, board.program(), board.watches()))
            deed = random_deed(rng, board.program(), board.watches())
            if deed[0] != "put":
                continue
            before, other = board.twin(), board.twin()
            error = do(other, deed)
            if error is None and not other.clean():
                error = CanNot()
            if error is not None:
                with self.assertRaises(type(error)) as caught:
                    board.effect(*deed[1:])
                self.assertEqual(vars(caught.exception), vars(error))
            else:
                self.assertEqual(board.effect(*deed[1:]), (other.least_price(), other.broken()))
            told[type(error).__name__] = told.get(type(error).__name__, 0) + 1
            self.assertEqual(board, before)
            self.assertEqual((board.program(), board.watches()), (before.program(), before.watches()))
        self.assertGreater(min(told[word] for word in ("NoneType", "NoItem", "Unfit", "CanNot")), 3)

    def test_unclean_made_clean(self):
        """effect and put from a PROGRAM that is not clean to one that is."""
        board = Board(((2, (None,) * 3, plain), ((0, 1),), ((("call", 0, ()),),)))
        self.assertIs(board.clean(), False)
        self.assertEqual(board.effect((0, 0), (("set", 2, ((0, 1), (1, 1))),)), (1, ()))
        with self.assertRaises(CanNot):
            board.effect((0, 0), (("call", 0, ()),))
        with self.assertRaises(CanNot):
            board.least_price()
        board.put((0, 0), ())
        self.assertEqual((board.clean(), board.least_price(), board.cheapest(), board.weak()), (True, None, None, ()))

    def test_watches_of_other_lengths(self):
        """A FORM of another length than there are SHARINGS now is told by nothing."""
        board = Board(twin)
        for form in ((0, 1), (1, 1), None):
            board.watch(form, 3)
        self.assertEqual(board.broken(), (0, 1, 2))
        board.deal(((0, 1),))
        self.assertEqual((board.watches(), board.broken()), ([((0, 1), 3), ((1, 1), 3), (None, 3)], (2,)))
        with self.assertRaises(Unfit):
            board.watch((0, 1), 3)
        board.undo()
        self.assertEqual(board.broken(), (0, 1, 2))

    def test_put_backs_are_weak(self):
        """The path of a put back is that of its call."""
        program = (2, (None, None, 0, 0), (("pass", 1), ("put", 4))), ((0, 1),), (
            (("set", 2, ((0, 1),)), ("call", 1, (2,))), (("set", 3, ()), ("set", 3, ((1, 1),))))
        board = Board(program)
        self.assertEqual(board.cheapest(), ((), (((3, "pass"), 1),)))
        self.assertEqual(board.weak(), ((0, 1),))

    def test_too_many(self):
        keeping = ((2, (None,) * 5, (("put", 1),)), ((0, 1),), (
            (("call", 1, (0, 1, 2)), ("set", 2, ((0, 1),)), ("set", 2, ((1, 1),))), (("call", 2, (0, 1, 2)),), (("draw", 0), ("draw", 1))))
        board = Board(keeping)
        board.watch(None, 2)
        for call in (board.cheapest, board.weak):
            with self.assertRaises(TooMany):
                call()
        self.assertEqual((board.least_price(), board.broken()), (2, (0,)))


class Twins(unittest.TestCase):

    def test_twins(self):
        """The same PROGRAM, watches, deeds to take back and to do again; then each its own way."""
        rng = rng_of(7)
        for _ in range(60):
            program = rng.choice(SAMPLES)
            board, ledger = Board(program), Ledger(program)
            for _ in range(15):
                deed = random_deed(rng, *ledger.now)
                ledger.deed(*deed)
                do(board, deed)
            other, own = board.twin(), copy.deepcopy(ledger)
            self.assertIs(board == other, True)
            for _ in range(15):
                one, two = random_deed(rng, *ledger.now), random_deed(rng, *own.now)
                self.assertEqual(type(do(board, one)), type(ledger.deed(*one)))
                self.assertEqual(type(do(other, two)), type(own.deed(*two)))
                self.assertEqual((board.program(), tuple(board.watches())), ledger.now)
                self.assertEqual((other.program(), tuple(other.watches())), own.now)
                self.assertIs(board == other, ledger.now == own.now)
                self.assertIs(board != other, ledger.now != own.now)

    def test_equal(self):
        one, other = Board(bus), Board([list(own) for own in bus])
        self.assertIs(one == other, True)
        one.watch(None, 1)
        self.assertIs(one == other, False)
        other.watch(None, 1)
        self.assertIs(one == other, True)
        other.undo()
        other.redo()
        self.assertIs(one == other, True)
        for thing in (bus, None, 1, "bus", []):
            self.assertIs(one == thing, False)
            self.assertIs(one != thing, True)

    def test_what_is_told_is_the_callers(self):
        program = [list(own) for own in bus]
        board = Board(program)
        program[2].clear()
        self.assertEqual(board.program(), bus)
        form = [1]
        board.watch(form, 2)
        form[0] = 0
        board.watches().append("more")
        self.assertEqual(board.watches(), [((1,), 2)])
        items = [["set", 2, [[0, 1]]]]
        board.put([0, 0], items)
        items[0][1] = 9
        self.assertEqual(board.program(), bus)
        dealt = [[1, 2]]
        board.deal(dealt)
        dealt[0][0] = 7
        self.assertEqual(board.program()[1], ((1, 2),))
        way = [["draw", 0]]
        board.add_block(way)
        board.put_block(1, way)
        way[0][1] = 3
        self.assertEqual(board.program()[2][1], (("draw", 0),))

    def test_by_name(self):
        board = Board(program=bus)
        board.put(path=(0, 0), items=())
        board.put_block(block=0, way=(("draw", 0),))
        board.add_block(way=())
        board.drop_block(block=1)
        board.lay(slot=3, bus=None)
        board.price(word="turn", price=None)
        board.deal(dealt=((0, 2),))
        board.watch(form=None, most=0)
        board.unwatch(place=0)
        self.assertEqual(board.effect(path=(0, 0), items=()), (None, ()))
        self.assertEqual(board.program(), ((2, (None, None, 0, None), plain[:2]), ((0, 2),), ((("draw", 0),),)))


if __name__ == "__main__":
    unittest.main()
