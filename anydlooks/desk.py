"""A desk that carries out requests, line by line, at a Board."""

from anydlooks.board import Board
from anydlooks.errors import BadLine, CanNot, NoBlock, NoItem, NoRegister, NothingDone, TooMany, Unfit
from anydlooks.texts import program_text, telling_text
from anydlooks.words import (
    figures_in, is_figures, is_item_words, item_read, number_or_none, numbers_of, word_of, word_or_dash,
)

_LETTERS = "abcdefghijklmnopqrstuvwxyz"
# Of each request the kinds of the words behind the first one.
_KINDS = {
    "drop": ("number",), "lay": ("number", "maybe"), "price": ("letters", "maybe"), "watch": ("form", "number"),
    "unwatch": ("number",), "undo": (), "redo": (), "cheapest": (), "cost": (), "weak": (), "broken": (),
    "watches": (), "clean": (), "program": (),
}


def _is_of_kind(word, kind):
    if kind == "letters":
        return word != "" and all([sign in _LETTERS for sign in word])
    if kind == "form":
        return figures_in(word) is not None
    return is_figures(word) or kind == "maybe" and word == "-"


def _are_request(words):
    """Whether these are the words of a request."""
    if words[0] in ("put", "effect"):
        if len(words) < 2 or figures_in(words[1]) is None:
            return False
        return len(words) == 2 or is_item_words(words[2:])
    if words[0] not in _KINDS:
        return False
    kinds = _KINDS[words[0]]
    return len(words) == len(kinds) + 1 and all([_is_of_kind(word, kind) for word, kind in zip(words[1:], kinds)])


def is_request(thing):
    """Whether thing is a string that is a request."""
    return isinstance(thing, str) and _are_request(thing.split(" "))


def _path(word):
    return numbers_of(figures_in(word))


def _items(words):
    """The one ITEM, or none, of the words behind a path."""
    return (item_read(words),) if words else ()


def _form(word):
    return None if word == "-" else numbers_of(figures_in(word))


def _do(board, words):
    """Does the deed of these words; False if they are none of a deed."""
    word = words[0]
    if word == "put":
        board.put(_path(words[1]), _items(words[2:]))
    elif word == "drop":
        board.drop_block(int(words[1]))
    elif word == "lay":
        board.lay(int(words[1]), number_or_none(words[2]))
    elif word == "price":
        board.price(words[1], number_or_none(words[2]))
    elif word == "watch":
        board.watch(_form(words[1]), int(words[2]))
    elif word == "unwatch":
        board.unwatch(int(words[1]))
    elif word == "undo":
        board.undo()
    elif word == "redo":
        board.redo()
    else:
        return False
    return True


def _one_line(text):
    """The lines of a text with " / " between."""
    return " / ".join(text.split("\n")[:-1])


def _parts(words):
    """What has several parts; nothing at all is "-"."""
    return " ".join(words) or "-"


def _cost(price):
    return "never" if price is None else str(price)


def _places(numbers):
    return _parts([str(own) for own in numbers])


def _told(board, words):
    """What is told of a look, or of the state of the Board."""
    word = words[0]
    if word == "cheapest":
        told = board.cheapest()
        return "never" if told is None else _one_line(telling_text(told))
    if word == "cost":
        return _cost(board.least_price())
    if word == "effect":
        price, broken = board.effect(_path(words[1]), _items(words[2:]))
        return f"{_cost(price)} {_places(broken)}"
    if word == "weak":
        return _parts([word_of(own) for own in board.weak()])
    if word == "broken":
        return _places(board.broken())
    if word == "watches":
        return _parts([f"{_form_word(form)}:{most}" for form, most in board.watches()])
    if word == "clean":
        return "yes" if board.clean() else "no"
    return _one_line(program_text(board.program()))


def _form_word(form):
    return word_or_dash(None) if form is None else word_of(form)


def _reply(board, words):
    return "done" if _do(board, words) else _told(board, words)


def _reply_or_refusal(board, words):
    """What is told of a line, also if an error is raised; the Board stands as ahead then."""
    try:
        return _reply(board, words)
    except NoBlock:
        return "refused NoBlock"
    except NoRegister:
        return "refused NoRegister"
    except NoItem:
        return "refused NoItem"
    except NothingDone:
        return "refused NothingDone"
    except CanNot:
        return "refused CanNot"
    except TooMany:
        return "refused TooMany"
    except Unfit:
        return "refused Unfit"


def replies(program, text):
    """The list of what is told for the lines of the text at a Board of the program."""
    lines = [line.split(" ") for line in text.split("\n")] if text else []
    for number, words in enumerate(lines):
        if not _are_request(words):
            raise BadLine(number)
    board = Board(program)
    return [_reply_or_refusal(board, words) for words in lines]
