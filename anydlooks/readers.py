"""Reading texts line by line, each line as the list of its words."""

from anydlooks.words import figures_ascend, figures_in, is_figures, is_item_words, item_read, number_or_none, numbers_of

_SORTS = ("pass", "put", "read", "turn")
# The words of lines ahead of all blocks, in the order in which they stand.
_HEADS = ("prime", "register", "sort", "share", "block")
_MOST_OPEN = 4
_MOST_WAYS = 4


class ProgramReader:
    """What is told of a program by the lines so far.

    stack has what is open, the block first: lists of a word and of WAYS, lists of ITEMS.
    """

    def __init__(self):
        self.stage = -1
        self.prime = None
        self.buses = []
        self.sorts = []
        self.dealt = []
        self.blocks = []
        self.stack = []

    def takes(self, words):
        """Takes the next line; tells whether it can stand there."""
        if words[0] in _HEADS:
            return self._takes_head(words, _HEADS.index(words[0]))
        return bool(self.stack) and self._takes_inner(words)

    def _takes_head(self, words, stage):
        """A line of a stage stands behind one of the same stage, but for the first, or of the one ahead."""
        is_next = stage == self.stage + 1 or stage == self.stage and stage > 0
        if len(self.stack) > 1 or not is_next or not self._fits(words, stage):
            return False
        self.stage = stage
        if stage == 0:
            self.prime = int(words[1])
        elif stage == 1:
            self.buses.append(number_or_none(words[1]))
        elif stage == 2:
            self.sorts.append((words[1], int(words[2])))
        elif stage == 3:
            self.dealt.append(numbers_of(words[1:]))
        else:
            self._close_block()
            self.stack = [["block", [[]]]]
        return True

    def _fits(self, words, stage):
        """Whether the line of this stage is of the right form."""
        if stage == 0:
            return len(words) == 2 and is_figures(words[1])
        if stage == 1:
            return len(words) == 2 and (words[1] == "-" or is_figures(words[1]))
        if stage == 2:
            if len(words) != 3 or words[1] not in _SORTS or not is_figures(words[2]):
                return False
            return not self.sorts or self.sorts[-1][0] < words[1]
        if stage == 3:
            return len(words) > 1 and all([is_figures(word) for word in words[1:]]) and figures_ascend(words[1:])
        return len(words) == 1

    def _takes_inner(self, words):
        """A line of a WAY."""
        if is_item_words(words):
            self._add(item_read(words))
            return True
        if len(words) != 1:
            return False
        if words[0] in ("one", "many"):
            if len(self.stack) > _MOST_OPEN:
                return False
            self.stack.append([words[0], [[]]])
            return True
        word, ways = self.stack[-1]
        if words[0] == "or":
            if word != "one" or len(ways) == _MOST_WAYS:
                return False
            ways.append([])
            return True
        return words[0] == "end" and self._takes_end(word, ways)

    def _takes_end(self, word, ways):
        if word == "block" or word == "one" and len(ways) < 2:
            return False
        self.stack.pop()
        inner = [tuple(way) for way in ways]
        self._add((word, tuple(inner) if word == "one" else inner[0]))
        return True

    def _add(self, item):
        """Adds an ITEM to the WAY that is open last."""
        self.stack[-1][1][-1].append(item)

    def _close_block(self):
        if self.stack:
            self.blocks.append(tuple(self.stack[0][1][0]))

    def can_end(self):
        """Whether the text can end here."""
        return len(self.stack) == 1

    def program(self):
        """What is told, if the text ends here."""
        self._close_block()
        self.stack = []
        return (self.prime, tuple(self.buses), tuple(self.sorts)), tuple(self.dealt), tuple(self.blocks)


def telling_lines(lines):
    """The tuple of numbers of the first line, None if that is none, and the list of pairs as far as lines can stand."""
    if not lines or len(lines[0]) != 2 or lines[0][0] != "run" or figures_in(lines[0][1]) is None:
        return None, []
    found = []
    for words in lines[1:]:
        pair = _look(words)
        if pair is None or found and not found[-1] < pair:
            break
        found.append(pair)
    return numbers_of(figures_in(lines[0][1])), found


def _look(words):
    """The pair (mark, number) of the words of a line; None if they are none of a mark."""
    if len(words) < 4 or words[0] != "look" or words[2] not in _SORTS:
        return None
    if not is_figures(words[1]) or not is_figures(words[-1]) or words[-1] == "0":
        return None
    mark = (int(words[1]), words[2])
    if words[2] == "read":
        row = figures_in(words[3])
        return ((*mark, numbers_of(row)), int(words[-1])) if row and len(words) == 5 else None
    return (mark, int(words[-1])) if len(words) == 4 else None
