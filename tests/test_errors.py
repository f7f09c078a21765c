"""[2], [28]: the errors, what they keep, and where they stand."""

import unittest

from anydlooks import errors

KEPT = {"NoBlock": ("number",), "NoRegister": ("number",), "NoBus": ("number",), "NoLine": ("number",),
        "NoItem": ("path",), "NoPerson": ("number",), "NothingDone": (), "BadLine": ("number",), "CanNot": (),
        "TooMany": (), "Unfit": ()}


class Errors(unittest.TestCase):

    def test_bases(self):
        for word in KEPT:
            base = ValueError if word in ("BadLine", "CanNot", "TooMany", "Unfit") else LookupError
            self.assertEqual(getattr(errors, word).__bases__, (base,), word)

    def test_kept(self):
        for word, names in KEPT.items():
            for value in (0, 5, -3, 10 ** 5000, (0, 2), ()):
                own = getattr(errors, word)
                if names:
                    self.assertEqual(vars(own(value)), {names[0]: value})
                    self.assertEqual(vars(own(**{names[0]: value})), {names[0]: value})
                else:
                    self.assertEqual(vars(own()), {})

    def test_caught_apart(self):
        for word in KEPT:
            for other in KEPT:
                if word != other:
                    self.assertFalse(issubclass(getattr(errors, word), getattr(errors, other)))


if __name__ == "__main__":
    unittest.main()
