"""[27]: a Desk beside a Board, and requests beside an own reading of them."""

import re
import unittest

from anydlooks import errors
from anydlooks.board import Board
from anydlooks.desk import is_request, replies
from anydlooks.errors import BadLine
from reckon import random_program, rng_of, things_like
from samples import bus, deep, fork, lost, meet, renew, thrice, tiny, turned, twin
from test_board import random_deed
from texts_by_hand import NUMBER, PAIRS, ROW, SIGNS, item_by, program_lines, row_by, telling_lines, way_lines, word_by

SAMPLES = (bus, deep, fork, lost, meet, renew, thrice, tiny, turned, twin)
ITEM = f"(?: set {NUMBER} {PAIRS}| draw {NUMBER}| call {NUMBER} {ROW})?"
FORMS = (
    f"(?:put|effect) {ROW}{ITEM}", f"(?:drop|unwatch) {NUMBER}", f"lay {NUMBER} (?:-|{NUMBER})", f"price [a-z]+ (?:-|{NUMBER})",
    f"watch {ROW} {NUMBER}", "undo|redo|cheapest|cost|weak|broken|watches|clean|program",
)


def is_request_by(thing):
    if type(thing) is not str or not any(re.fullmatch(own, thing) for own in FORMS):
        return False
    told = re.fullmatch("(?:put|effect) [^ ]+ (.*)", thing)
    return told is None or item_by(told[1]) is not None


def maybe(word):
    return None if word == "-" else int(word)


def cost(price):
    return "never" if price is None else str(price)


def reply_by(board, line):
    """What is told of a line, at a Board of the tests' own."""
    words = line.split(" ")
    word, rest = words[0], words[1:]
    if word in ("put", "effect"):
        rest = row_by(rest[0]), tuple(item_by(" ".join(rest[1:])) for _ in range(len(rest) > 1))
    if word == "effect":
        price, broken = board.effect(*rest)
        return cost(price) + " " + (" ".join(map(str, broken)) or "-")
    deeds = {
        "put": lambda: board.put(*rest), "drop": lambda: board.drop_block(int(rest[0])), "undo": board.undo, "redo": board.redo,
        "lay": lambda: board.lay(int(rest[0]), maybe(rest[1])), "price": lambda: board.price(rest[0], maybe(rest[1])),
        "watch": lambda: board.watch(None if rest[0] == "-" else row_by(rest[0]), int(rest[1])),
        "unwatch": lambda: board.unwatch(int(rest[0])),
    }
    if word in deeds:
        deeds[word]()
        return "done"
    return state_by(board, word)


def state_by(board, word):
    if word == "cheapest":
        told = board.cheapest()
        return "never" if told is None else " / ".join(telling_lines(told))
    if word == "cost":
        return cost(board.least_price())
    if word == "weak":
        return " ".join(map(word_by, board.weak())) or "-"
    if word == "broken":
        return " ".join(map(str, board.broken())) or "-"
    if word == "watches":
        return " ".join(("-" if form is None else word_by(form)) + ":" + str(most) for form, most in board.watches()) or "-"
    if word == "clean":
        return "yes" if board.clean() else "no"
    return " / ".join(program_lines(board.program()))


def replies_by(program, lines):
    board, found = Board(program), []
    for line in lines:
        twin_board = board.twin()
        try:
            found.append(reply_by(board, line))
        except (errors.NoBlock, errors.NoRegister, errors.NoItem, errors.NothingDone, errors.CanNot, errors.TooMany, errors.Unfit) as error:
            found.append("refused " + type(error).__name__)
            assert board == twin_board
    return found


def random_line(rng, program):
    """The line of a deed or a look, of any numbers."""
    kind = rng.random()
    if kind < 0.4:
        return rng.choice(("cheapest", "cost", "weak", "broken", "watches", "clean", "program", "undo", "redo", "undo"))
    word, *rest = random_deed(rng, program, ())
    if word == "put" and (type(rest[1]) is not tuple or len(rest[1]) > 1 or rest[1][:1] and rest[1][0][0] in ("one", "many")):
        rest[1] = ()
    if word == "put" and -1 not in rest[0]:
        return " ".join([rng.choice(("put", "effect")), word_by(rest[0]), *way_lines(rest[1])])
    if word in ("lay", "price", "watch", "unwatch", "drop_block") and -1 not in rest:
        told = [word_by(own) if isinstance(own, (tuple, list)) else "-" if own is None else str(own) for own in rest]
        return " ".join([word.replace("_block", ""), *told])
    return "cost"


class Requests(unittest.TestCase):

    def test_bent(self):
        rng, told = rng_of(1), {True: 0, False: 0}
        lines = ["put 0,0", "put 0,1 set 2 0:1+1:1", "effect 1,0 draw 2", "put - call 1 0,2", "drop 1", "lay 3 -", "lay 0 12", "price put 2",
                 "price turn -", "watch - 1", "watch 1,0 6", "unwatch 0", "undo", "redo", "cheapest", "cost", "weak", "broken", "watches",
                 "clean", "program"]
        for _ in range(12000):
            line = rng.choice(lines)
            for _ in range(rng.choice((0, 1, 1, 2))):
                at, kind = rng.randrange(len(line) + 1), rng.random()
                if kind < 0.5:
                    line = line[:at] + rng.choice(("", rng.choice(SIGNS))) + line[at + rng.randint(0, 1):]
                elif kind < 0.7:
                    line = line + " " + rng.choice(("0", "-", "draw 1", "put", "1,2"))
                else:
                    words = line.split(" ")
                    words[rng.randrange(len(words))] = rng.choice(("0", "-", "10", "put", "1,2", "01", "", "0:1", "undo", "set", "draw"))
                    line = " ".join(words)
            self.assertIs(is_request(line), is_request_by(line), line)
            told[is_request_by(line)] += 1
        self.assertGreater(min(told.values()), 2000)

    def test_edges(self):
        for line in ("put 0,0", "put -", "effect 9,9,9 draw 10000", "put 0,0 set 7 -", "put 0,0 set 7 3:9+8:1", "put 0,0 call 9 -", "price other 3",
                     "price a -", "price z 0", "watch 0,0 99", "watch - 0", "lay 0 -", "drop 77", "unwatch 1000", "watch 5 1",
                     "put " + "9" * 1000, "drop " + "9" * 5000, "watch " + "1," * 3000 + "1 0"):
            self.assertIs(is_request(line), True, line)
        for line in ("", " ", "put", "put 0,0 ", "put  0,0", " put 0,0", "put 0,0 one", "put 0,0 many", "put 0,0 end", "put 0,0 block", "put 0,0 set 2",
                     "put 0,0 draw", "put 0,0 draw -", "put 0,0 call 1", "put 0,0 call 1 1,0", "put 0,0 set 0 1:1+0:1", "put 0,0 set 0 0:0", "put 0,00",
                     "put 0,0 draw 1 draw 1", "Put 0,0", "drop", "drop -", "drop 0,1", "drop 1 2", "lay 1", "lay - 1", "lay 1 2 3", "price put", "price - 1",
                     "price Put 1", "price put1 1", "price  1", "price put -1", "watch 1", "watch - -", "watch -,1 2", "unwatch -", "unwatch", "undo 1",
                     "cost ", "cost 1", "cheapest\n", "\ncost", "cost\ncost", "Cost", "weak -", "program 0", "clean yes", "add", "deal 0,1", "drop 01",
                     "drop \u0663", "price \u00e9 1", "drop +1", "drop 1.0", "watch 1, 2", "watch ,1 2"):
            self.assertIs(is_request(line), False, line)
        for thing in [*things_like(("cost",)), b"cost", ["cost"], ("cost",), None, 1, True]:
            self.assertIs(is_request(thing), type(thing) is str and is_request_by(thing), thing)


class Replies(unittest.TestCase):

    def test_beside_a_board(self):
        rng, words = rng_of(2), {}
        for start in range(120):
            program = rng.choice(SAMPLES) if start % 3 else random_program(rng, size=3)
            lines = [random_line(rng, program) for _ in range(25)]
            found = replies(program, "\n".join(lines))
            self.assertEqual(found, replies_by(program, lines))
            self.assertIs(type(found), list)
            for line, told in zip(lines, found):
                key = (line.split(" ")[0], told.split(" ")[1] if told.startswith("refused") else "told")
                words[key] = words.get(key, 0) + 1
        for word in ("put", "drop", "lay", "price", "watch", "unwatch", "undo", "redo", "cheapest", "cost", "effect", "weak", "broken", "watches",
                     "clean", "program"):
            self.assertGreater(words.get((word, "told"), 0), 3, word)
        for key in (("put", "NoItem"), ("put", "Unfit"), ("drop", "NoBlock"), ("drop", "Unfit"), ("lay", "NoRegister"), ("lay", "Unfit"), ("price", "Unfit"),
                    ("watch", "Unfit"), ("unwatch", "Unfit"), ("undo", "NothingDone"), ("redo", "NothingDone"), ("cheapest", "CanNot"), ("effect", "CanNot"),
                    ("effect", "NoItem"), ("broken", "CanNot")):
            self.assertGreater(words.get(key, 0), 0, key)

    def test_what_is_told(self):
        self.assertEqual(replies(bus, ""), [])
        text = "watches\nbroken\nweak\nwatch 1 0\nwatch - 6\nwatch 1 1\nwatches\nbroken\nput 0,0\nbroken\ncheapest\nweak\ncost\neffect 0,0 draw 2\nclean\nprogram"
        self.assertEqual(replies(bus, text), [
            "-", "-", "0,1", "done", "done", "done", "1:0 -:6 1:1", "1 2", "done", "-", "never", "-", "never", "never -", "yes",
            "prime 2 / register - / register - / register 0 / register 0 / sort pass 1 / sort put 1 / sort turn 1 / share 0 1 / block / set 3 1:1"])
        self.assertEqual(replies(lost, "clean\ncost\nbroken\nweak\ncheapest\nprogram")[:5], ["no"] + ["refused CanNot"] * 4)
        self.assertEqual(replies(bus, "watch - 1\neffect 0,0 set 2 0:1\neffect 0,1 set 3 0:1\neffect 7,7\neffect 0,0 draw 9\neffect 0,0 call 0 -"), [
            "done", "1 0", "never -", "refused NoItem", "refused Unfit", "refused CanNot"])
        self.assertEqual(replies(bus, "put -\nprice other -\nprice other 3\nredo\nundo\nundo"), [
            "refused NoItem", "done", "refused Unfit", "refused NothingDone", "done", "refused NothingDone"])
        self.assertEqual(replies(thrice, "cheapest\nweak"), ["run - / look 0 turn 1", "0,0"])

    def test_reads_are_told(self):
        reads = (thrice[0][0], thrice[0][1], (("read", 2),)), thrice[1], thrice[2]
        self.assertEqual(replies(reads, "cheapest\ncost"), ["run - / look 0 read 1,1 1", "2"])

    def test_too_many(self):
        keeping = ((2, (None,) * 5, (("put", 1),)), ((0, 1),), (
            (("call", 1, (0, 1, 2)), ("set", 2, ((0, 1),)), ("set", 2, ((1, 1),))), (("call", 2, (0, 1, 2)),), (("draw", 0), ("draw", 1))))
        self.assertEqual(replies(keeping, "cheapest\nweak\ncost\nwatch - 1\nwatch - 2\nbroken"), [
            "refused TooMany", "refused TooMany", "2", "done", "done", "1"])

    def test_bad_lines(self):
        """The first line that is no request, ahead of all."""
        for text, number in (("\n", 0), ("cost\n", 1), ("\ncost", 0), ("cost\n\ncost", 1), ("undo\nput\nalso", 1), ("x", 0), ("undo\nundo\nundo\nCost", 3)):
            with self.assertRaises(BadLine) as caught:
                replies(bus, text)
            self.assertEqual(vars(caught.exception), {"number": number})

    def test_lists(self):
        program = [list(own) for own in bus]
        text = "put 0,0\nprogram"
        self.assertEqual(replies(program=program, text=text), replies(bus, text))
        self.assertEqual(program, [list(own) for own in bus])
        found = replies(bus, text)
        found.append("more")
        self.assertEqual(len(replies(bus, text)), 2)


if __name__ == "__main__":
    unittest.main()
