"""Texts of [25] written and read by the tests' own hand."""

import re

from predicates import program as is_program_by

NUMBER = "(?:0|[1-9][0-9]*)"
ROW = f"(?:-|{NUMBER}(?:,{NUMBER})*)"
PAIRS = f"(?:-|{NUMBER}:[1-9][0-9]*(?:\\+{NUMBER}:[1-9][0-9]*)*)"


class Bad(Exception):
    def __init__(self, number):
        self.number = number


def row_by(word):
    """The tuple of numbers of a word; None if there is none."""
    if not re.fullmatch(ROW, word):
        return None
    return tuple(map(int, word.split(","))) if word != "-" else ()


def ascends(numbers):
    return all(a < b for a, b in zip(numbers, numbers[1:]))


def pairs_by(word):
    if not re.fullmatch(PAIRS, word):
        return None
    found = tuple(tuple(map(int, own.split(":"))) for own in word.split("+")) if word != "-" else ()
    return found if ascends([own[0] for own in found]) else None


def item_by(line):
    """The ITEM of a line of a set, a draw or a call; None if it is none."""
    told = re.fullmatch(f"set ({NUMBER}) ({PAIRS})", line)
    if told and pairs_by(told[2]) is not None:
        return "set", int(told[1]), pairs_by(told[2])
    told = re.fullmatch(f"draw ({NUMBER})", line)
    if told:
        return "draw", int(told[1])
    told = re.fullmatch(f"call ({NUMBER}) ({ROW})", line)
    if told and ascends(row_by(told[2])):
        return "call", int(told[1]), row_by(told[2])
    return None


class Hand:
    """Goes down through the lines as they may stand."""

    def __init__(self, text):
        self.lines = text.split("\n")
        if self.lines[-1] == "":
            self.lines.pop()
        self.at = 0

    def next(self, pattern):
        """What the next line is told to be; None if it is not of this form."""
        told = re.fullmatch(pattern, self.lines[self.at]) if self.at < len(self.lines) else None
        return told

    def take(self, pattern):
        told = self.next(pattern)
        if told is None:
            raise Bad(self.at)
        self.at += 1
        return told

    def program(self):
        prime = int(self.take(f"prime ({NUMBER})")[1])
        buses = []
        while not buses or self.next(f"register (-|{NUMBER})"):
            word = self.take(f"register (-|{NUMBER})")[1]
            buses.append(None if word == "-" else int(word))
        sorts, pattern = [], f"sort (pass|put|read|turn) ({NUMBER})"
        while not sorts or self.next(pattern) and self.next(pattern)[1] > sorts[-1][0]:
            told = self.take(pattern)
            sorts.append((told[1], int(told[2])))
        dealt, pattern = [], f"share ({NUMBER}(?: {NUMBER})*)"
        while not dealt or self.next(pattern):
            told = self.next(pattern)
            if told is None or not ascends(list(map(int, told[1].split(" ")))):
                raise Bad(self.at)
            dealt.append(tuple(map(int, self.take(pattern)[1].split(" "))))
        blocks = []
        while not blocks or self.at < len(self.lines):
            self.take("block")
            blocks.append(self.way(0))
        return (prime, tuple(buses), tuple(sorts)), tuple(dealt), tuple(blocks)

    def way(self, depth):
        found = []
        while self.at < len(self.lines):
            line = self.lines[self.at]
            item = item_by(line)
            if item is not None:
                self.at += 1
                found.append(item)
            elif line == "one" and depth < 4:
                self.at += 1
                found.append(("one", self.ways(depth + 1)))
            elif line == "many" and depth < 4:
                self.at += 1
                inner = self.way(depth + 1)
                self.take("end")
                found.append(("many", inner))
            else:
                break
        return tuple(found)

    def ways(self, depth):
        found = [self.way(depth)]
        while len(found) < 2 or not self.next("end"):
            if len(found) == 4:
                raise Bad(self.at)
            self.take("or")
            found.append(self.way(depth))
        self.take("end")
        return tuple(found)

    def telling(self):
        run = self.take(f"run ({ROW})")
        found = []
        while self.at < len(self.lines):
            told = self.next(f"look ({NUMBER}) (?:(pass|put|turn)|read ({NUMBER}(?:,{NUMBER})*)) ([1-9][0-9]*)")
            if told is None:
                raise Bad(self.at)
            mark = (int(told[1]), told[2]) if told[2] else (int(told[1]), "read", row_by(told[3]))
            if found and not found[-1] < (mark, int(told[4])):
                raise Bad(self.at)
            found.append((mark, int(told[4])))
            self.at += 1
        return row_by(run[1]), tuple(found)


def program_by(text):
    """("told", PROGRAM), ("bad", number) or ("unfit",)."""
    try:
        found = Hand(text).program()
    except Bad as error:
        return "bad", error.number
    return ("told", found) if is_program_by(found) else ("unfit",)


def telling_by(text):
    try:
        return "told", Hand(text).telling()
    except Bad as error:
        return "bad", error.number


def word_by(numbers):
    return ",".join(map(str, numbers)) if numbers else "-"


def way_lines(way):
    for item in way:
        if item[0] == "set":
            yield "set " + str(item[1]) + " " + ("+".join(str(a) + ":" + str(b) for a, b in item[2]) if item[2] else "-")
        elif item[0] == "draw":
            yield "draw " + str(item[1])
        elif item[0] == "call":
            yield "call " + str(item[1]) + " " + word_by(item[2])
        elif item[0] == "many":
            yield "many"
            yield from way_lines(item[1])
            yield "end"
        else:
            for number, own in enumerate(item[1]):
                yield "or" if number else "one"
                yield from way_lines(own)
            yield "end"


def program_lines(program):
    (prime, buses, sorts), dealt, blocks = program
    yield "prime " + str(prime)
    for bus in buses:
        yield "register " + ("-" if bus is None else str(bus))
    for word, price in sorts:
        yield "sort " + word + " " + str(price)
    for own in dealt:
        yield "share " + " ".join(map(str, own))
    for way in blocks:
        yield "block"
        yield from way_lines(way)


def telling_lines(telling):
    yield "run " + word_by(telling[0])
    for mark, residue in telling[1]:
        row = " " + word_by(mark[2]) if len(mark) == 3 else ""
        yield "look " + str(mark[0]) + " " + mark[1] + row + " " + str(residue)


def text_of(lines):
    return "".join(line + "\n" for line in lines)


SIGNS = "0123456789,:+- \nabcdefghijklmnopqrstuvwxyz~!./A"


def bent(rng, text):
    """The text with one sign, word or line bent."""
    kind, at = rng.randrange(9), rng.randrange(len(text) + 1)
    lines = text.split("\n")
    place = rng.randrange(len(lines))
    if kind == 0:
        return text[:at] + rng.choice(SIGNS) + text[at:]
    if kind == 1:
        return text[:at] + text[at + 1:]
    if kind == 2:
        return text[:at] + rng.choice(SIGNS) + text[at + 1:]
    if kind == 3:
        return "\n".join(lines[:place] + lines[place + 1:])
    if kind == 4:
        return "\n".join(lines[:place] + [rng.choice(lines)] + lines[place:])
    if kind == 5:
        other = rng.randrange(len(lines))
        lines[place], lines[other] = lines[other], lines[place]
        return "\n".join(lines)
    if kind == 6:
        return "\n".join(lines[:place])
    if kind == 7:
        return "\n".join(lines[:place] + [rng.choice(("end", "or", "one", "many", "block", "", "set 0 -", "draw 7", "share 9", "sort turn 1"))]
                         + lines[place:])
    words = lines[place].split(" ")
    word = rng.randrange(len(words))
    words[word] = rng.choice((words[word] + "0", "0" + words[word], "-", "", "10", words[word] + ",9", words[word] + "+9:1", words[word] * 2))
    lines[place] = " ".join(words)
    return "\n".join(lines)
