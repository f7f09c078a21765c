"""The words of numbers, of tuples of them and of sums: written, read apart, and read.

A word is read apart into figures first, which are compared without turning them into numbers.
"""

_FIGURES = "0123456789"


def is_figures(word):
    """Whether word is a number in figures without a needless 0 ahead."""
    if word == "" or any([sign not in _FIGURES for sign in word]):
        return False
    return word == "0" or word[0] != "0"


def figures_ascend(words):
    """Whether numbers in figures ascend without duplicates."""
    keys = [(len(word), word) for word in words]
    return all([keys[k] < keys[k + 1] for k in range(len(keys) - 1)])


def figures_in(word):
    """The list of the figures of the numbers in the word of a tuple; None if it is none."""
    if word == "-":
        return []
    found = word.split(",")
    return found if all([is_figures(own) for own in found]) else None


def pairs_in(word):
    """The list of the pairs of figures in the word of a sum; None if it is none."""
    if word == "-":
        return []
    found = [own.split(":") for own in word.split("+")]
    if not all([len(own) == 2 and is_figures(own[0]) and is_figures(own[1]) and own[1] != "0" for own in found]):
        return None
    return [(own[0], own[1]) for own in found] if figures_ascend([own[0] for own in found]) else None


def is_item_words(words):
    """Whether these are the words of the line of a set, a draw or a call."""
    if len(words) == 2:
        return words[0] == "draw" and is_figures(words[1])
    if len(words) != 3 or not is_figures(words[1]):
        return False
    if words[0] == "set":
        return pairs_in(words[2]) is not None
    kept = figures_in(words[2])
    return words[0] == "call" and kept is not None and figures_ascend(kept)


def item_read(words):
    """The ITEM of the words of such a line."""
    number = int(words[1])
    if words[0] == "draw":
        return "draw", number
    if words[0] == "set":
        return "set", number, numbers_of_pairs(pairs_in(words[2]))
    return "call", number, numbers_of(figures_in(words[2]))


def numbers_of(words):
    """The tuple of the numbers that are written in figures."""
    return tuple([int(word) for word in words])


def numbers_of_pairs(pairs):
    """The tuple of the pairs of numbers that are written in figures."""
    return tuple([(int(one), int(other)) for one, other in pairs])


def number_or_none(word):
    """The number, or None for "-"."""
    return None if word == "-" else int(word)


def word_of(numbers):
    """The word of a tuple of numbers."""
    return ",".join([str(own) for own in numbers]) or "-"


def word_of_sum(pairs):
    """The word of a sum."""
    return "+".join([f"{one}:{other}" for one, other in pairs]) or "-"


def word_or_dash(number):
    """The number in figures, or "-" for None."""
    return "-" if number is None else str(number)


def item_line(item):
    """The line of a set, a draw or a call."""
    if item[0] == "draw":
        return f"draw {item[1]}"
    last = word_of_sum(item[2]) if item[0] == "set" else word_of(item[2])
    return f"{item[0]} {item[1]} {last}"
