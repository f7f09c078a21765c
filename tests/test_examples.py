"""The examples of the document, with the answers that stand there (examples.txt)."""

import importlib
import os
import re
import unittest

from anydlooks import errors
from test_language import INTERFACE

HERE = os.path.dirname(os.path.abspath(__file__))


def examples():
    """The triples (module, expression or assignment, answer or None)."""
    with open(os.path.join(HERE, "examples.txt"), encoding="utf-8") as source:
        rows = source.read().split("\n")
    module, found = "", []
    for row in rows:
        if row.startswith("# "):
            module = row[2:]
        elif row.startswith(">>> "):
            found.append([module, row[4:], None])
        elif row:
            found[-1][2] = row
    return found


def names():
    space = {}
    for module, words in INTERFACE.items():
        loaded = importlib.import_module("anydlooks." + module)
        space.update({word: getattr(loaded, word) for word in words.split()})
    return space


class Examples(unittest.TestCase):

    def test_examples(self):
        space, told = names(), 0
        for module, code, answer in examples():
            with self.subTest(module=module, code=code):
                if answer is None:
                    exec(code, space)
                elif answer.startswith("raises "):
                    word, brackets = re.fullmatch(r"raises (\w+)\((.*)\)", answer).groups()
                    kept = eval("dict(" + brackets + ")", {})
                    with self.assertRaises(getattr(errors, word)) as caught:
                        eval(code, space)
                    self.assertEqual(vars(caught.exception), kept)
                else:
                    self.assertEqual(repr(eval(code, space)), repr(eval(answer, space)))
                    told += 1
        self.assertGreater(told, 40)


if __name__ == "__main__":
    unittest.main()
