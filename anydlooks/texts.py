"""Texts of programs and TELLINGS: written, and read back."""

from anydlooks.errors import BadLine, Unfit
from anydlooks.plain import frozen
from anydlooks.programs import is_program
from anydlooks.readers import ProgramReader, telling_lines
from anydlooks.words import (
    figures_in, item_line, numbers_of, numbers_of_pairs, pairs_in, word_of, word_of_sum, word_or_dash,
)


def run_word(run):
    """The word of a RUN."""
    return word_of(run)


def sum_word(pairs):
    """The word of a sum."""
    return word_of_sum(pairs)


def run_read(word):
    """The tuple of numbers with this word; None if there is none."""
    found = figures_in(word)
    return None if found is None else numbers_of(found)


def sum_read(word):
    """The sum with this word; None if there is none."""
    found = pairs_in(word)
    return None if found is None else numbers_of_pairs(found)


def _way_lines(way):
    """The list of the lines of a WAY."""
    found = []
    for item in way:
        if item[0] == "many":
            found.extend(["many", *_way_lines(item[1]), "end"])
        elif item[0] == "one":
            inner = [["or", *_way_lines(own)] for own in item[1]]
            inner[0][0] = "one"
            found.extend([line for own in inner for line in own])
            found.append("end")
        else:
            found.append(item_line(item))
    return found


def program_text(program):
    """The text of the PROGRAM."""
    (prime, buses, sorts), dealt, blocks = frozen(program)
    lines = [f"prime {prime}"]
    lines.extend([f"register {word_or_dash(bus)}" for bus in buses])
    lines.extend([f"sort {word} {price}" for word, price in sorts])
    lines.extend([" ".join(["share", *[str(slot) for slot in own]]) for own in dealt])
    for way in blocks:
        lines.extend(["block", *_way_lines(way)])
    return _text(lines)


def telling_text(telling):
    """The text of the TELLING."""
    run, terms = frozen(telling)
    lines = [f"run {word_of(run)}"]
    for mark, residue in terms:
        row = [word_of(mark[2])] if mark[1] == "read" else []
        lines.append(" ".join(["look", str(mark[0]), mark[1], *row, str(residue)]))
    return _text(lines)


def _text(lines):
    return "".join([f"{line}\n" for line in lines])


def _lines_of(text):
    """The list of the lines of a text; a line break at the end begins no further one."""
    lines = text.split("\n")
    return lines[:-1] if lines[-1] == "" else lines


def read_program(text):
    """The PROGRAM with this text."""
    reader, lines = ProgramReader(), _lines_of(text)
    for number, line in enumerate(lines):
        if not reader.takes(line.split(" ")):
            raise BadLine(number)
    if not reader.can_end():
        raise BadLine(len(lines))
    program = reader.program()
    if not is_program(program):
        raise Unfit()
    return program


def read_telling(text):
    """The pair (run, terms) with this text."""
    lines = _lines_of(text)
    run, terms = telling_lines([line.split(" ") for line in lines])
    if run is None or len(terms) + 1 < len(lines):
        raise BadLine(0 if run is None else len(terms) + 1)
    return run, tuple(terms)
