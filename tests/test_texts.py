"""[25]: texts beside those written by the tests' own hand, and bent ones beside an own reader."""

import unittest

from anydlooks.errors import BadLine, Unfit
from anydlooks.forms import is_telling
from anydlooks.least import cheapest_telling
from anydlooks.programs import is_program
from anydlooks.texts import (
    program_text, read_program, read_telling, run_read, run_word, sum_read, sum_word, telling_text,
)
from reckon import clean_program, random_program, rng_of, some_runs
from samples import bus, deep, fork, masked, meet, renew, small, thrice, tiny, turned, twin
from texts_by_hand import (
    SIGNS, bent, pairs_by, program_by, program_lines, row_by, telling_by, telling_lines, text_of, word_by,
)

SAMPLES = (bus, deep, fork, masked, meet, renew, thrice, tiny, turned, twin)


def outcome(call, text):
    """What reading comes to, as the tests' own reader tells it."""
    try:
        return "told", call(text)
    except BadLine as error:
        assert list(vars(error)) == ["number"]
        return "bad", error.number
    except Unfit as error:
        assert vars(error) == {}
        return ("unfit",)


class Words(unittest.TestCase):

    def test_written(self):
        rng = rng_of(1)
        for _ in range(200):
            numbers = tuple(rng.choice((0, 1, 9, 10, 10 ** 6, 10 ** 999)) for _ in range(rng.randint(0, 4)))
            self.assertEqual(run_word(numbers), word_by(numbers))
            self.assertEqual(run_read(run_word(list(numbers))), numbers)
            pairs = tuple((number, rng.choice((1, 2, 4, 10 ** 998))) for number in sorted(set(numbers)))
            word = "+".join(f"{a}:{b}" for a, b in pairs) or "-"
            self.assertEqual(sum_word(pairs), word)
            self.assertEqual(sum_word([list(own) for own in pairs]), word)
            self.assertEqual(sum_read(word), pairs)

    def test_bent_words(self):
        rng, told = rng_of(2), {True: 0, False: 0}
        words = ["-", "0", "1,0", "10,2,300", "0:1", "0:1+2:2", "3:10+40:1+41:7", "", "0,0", "7:1", "1" * 1000]
        for _ in range(4000):
            word = rng.choice(words)
            for _ in range(rng.randint(0, 2)):
                at = rng.randrange(len(word) + 1)
                word = word[:at] + rng.choice(("", rng.choice(SIGNS[:16]), rng.choice(SIGNS))) + word[at + rng.randint(0, 1):]
            for call, by_hand in ((run_read, row_by), (sum_read, pairs_by)):
                self.assertEqual(call(word), by_hand(word), word)
                told[by_hand(word) is None] += 1
        self.assertGreater(min(told.values()), 1000)

    def test_edges(self):
        for word in ("", " ", "--", "-,-", "-,0", "0,-", "01", "00", "+1", "-1", "1,", ",1", "1,,2", "1, 2", " 1", "1 ", "1\n", "\n", "1.0", "1e3",
                     "0x1", "1_0", "one", "0:1", "a"):
            self.assertIsNone(run_read(word), word)
        for word in ("", "0", "0:0", "0:01", "00:1", "0:1+", "+0:1", "0:1+0:1", "0:1+0:2", "1:1+0:1", "0:1,1:1", "0:1+-", "-+0:1", "0:1:1", "0:-",
                     "0: 1", "0:1 ", "0:1\n", ":1", "1:", ":"):
            self.assertIsNone(sum_read(word), word)
        self.assertEqual((run_read("5,5,0"), run_read("-"), sum_read("-"), sum_read("9:1+10:1")), ((5, 5, 0), (), (), ((9, 1), (10, 1))))


class Programs(unittest.TestCase):

    def test_written_and_read(self):
        rng = rng_of(3)
        programs = [*SAMPLES, *[random_program(rng) for _ in range(150)]]
        for program in programs:
            text = text_of(program_lines(program))
            self.assertEqual(program_text(program), text)
            self.assertEqual(program_text([list(own) for own in program]), text)
            for own in (text, text[:-1]):
                self.assertEqual(read_program(own), program)
            self.assertEqual(outcome(read_program, text + "\n"), ("bad", text.count("\n")))

    def test_bent(self):
        rng, told = rng_of(4), {}
        for _ in range(6000):
            program = rng.choice(SAMPLES) if rng.random() < 0.6 else random_program(rng)
            text = text_of(program_lines(program))
            for _ in range(rng.choice((1, 1, 2))):
                text = bent(rng, text)
            wanted = program_by(text)
            self.assertEqual(outcome(read_program, text), wanted, text)
            told[wanted[0]] = told.get(wanted[0], 0) + 1
            if wanted[0] == "told":
                self.assertIs(is_program(wanted[1]), True)
                self.assertEqual(program_text(wanted[1]), text if text.endswith("\n") else text + "\n")
        self.assertGreater(min(told.values()), 200)

    def test_too_early(self):
        """Each text that ends too early: at the number of all its lines."""
        for program in (deep, turned, fork):
            lines = list(program_lines(program))
            for many in range(len(lines)):
                text = "\n".join(lines[:many])
                wanted = program_by(text)
                self.assertEqual(outcome(read_program, text), wanted)
                if many < lines.index("block") + 1 or lines[many - 1] in ("one", "many", "or"):
                    self.assertEqual(wanted, ("bad", many))

    def test_heads(self):
        head = "prime 2\nregister -\nregister -\nsort put 1\nshare 0 1\nblock\n"
        self.assertEqual(read_program(head), ((2, (None, None), (("put", 1),)), ((0, 1),), ((),)))
        for text, wanted in (
                ("", ("bad", 0)), ("\n", ("bad", 0)), ("prime", ("bad", 0)), ("prime 2", ("bad", 1)), ("prime 2\n\n", ("bad", 1)), ("prime  2", ("bad", 0)),
                (" prime 2", ("bad", 0)), ("prime 2 ", ("bad", 0)), ("prime 02\n", ("bad", 0)), ("prime 4\n", ("bad", 1)), ("register -", ("bad", 0)),
                ("prime 2\nsort put 1", ("bad", 1)), ("prime 2\nprime 2", ("bad", 1)), (head + "prime 2", ("bad", 6)), (head + "register -", ("bad", 6)),
                (head + "sort turn 1", ("bad", 6)), (head + "share 0 1", ("bad", 6)), (head + "end", ("bad", 6)), (head + "or", ("bad", 6)),
                (head.replace("prime 2", "prime 7"), ("unfit",)), (head.replace("prime 2", "prime 0"), ("unfit",)),
                (head.replace("sort put 1", "sort put 0"), ("unfit",)), (head.replace("sort put 1", "sort put 10"), ("unfit",)),
                (head.replace("sort put 1", "sort push 1"), ("bad", 3)), (head.replace("sort put 1", "sort put 1\nsort pass 1"), ("bad", 4)),
                (head.replace("sort put 1", "sort put 1\nsort put 2"), ("bad", 4)), (head.replace("share 0 1", "share 1 0"), ("bad", 4)),
                (head.replace("share 0 1", "share"), ("bad", 4)), (head.replace("share 0 1", "share 0"), ("unfit",)),
                (head.replace("share 0 1", "share 0 5"), ("unfit",)), (head.replace("share 0 1", "share -"), ("bad", 4)),
                (head.replace("share 0 1", "share 0,1"), ("bad", 4)), (head.replace("register -\n", "register 1\n", 1), ("unfit",)),
                (head.replace("register -\n", "register " + "9" * 1000 + "\n", 1), ("unfit",)), (head.replace("register -\n", "register\n", 1), ("bad", 1)),
                (head + "call 1 -", ("unfit",)), (head + "set 0 5:1", ("unfit",)), (head + "set 0 0:2", ("unfit",)), (head + "set 0 0:0", ("bad", 6)),
                (head + "set 0", ("bad", 6)), (head + "set 0 - -", ("bad", 6)), (head + "draw -", ("bad", 6)), (head + "draw 2", ("unfit",)),
                (head + "call 0 1,0", ("bad", 6)), (head + "call 0 0,0", ("bad", 6)), (head + "call 0 0,1", ("told",)), (head + "Draw 0", ("bad", 6)),
                (head + "block\nblock\nblock", ("told",)), (head + "block 1", ("bad", 6)), (head + "renew 0", ("bad", 6)), (head + "\n", ("bad", 6))):
            found = outcome(read_program, text)
            self.assertEqual(found[:len(wanted)], wanted, text)
            self.assertEqual(found, program_by(text))

    def test_open(self):
        head = "prime 2\nregister -\nregister -\nsort put 1\nshare 0 1\nblock\n"
        for inner, wanted in (
                ("one\nor\nend", ("told",)), ("one\nend", ("bad", 7)), ("one\nor\nor\nor\nend", ("told",)), ("one\nor\nor\nor\nor\nend", ("bad", 10)),
                ("many\nend", ("told",)), ("many\nor\nend", ("bad", 7)), ("many\nmany\nmany\nmany\nend\nend\nend\nend", ("told",)),
                ("many\nmany\nmany\nmany\nmany", ("bad", 10)), ("many\nmany\nmany\nmany\none", ("bad", 10)), ("one\nor\none\nor\nend\nend", ("told",)),
                ("one\none\none\none\nor\nend\nor\nend\nor\nend\nor\nend", ("told",)), ("one\none\none\none\nor\nmany", ("bad", 11)),
                ("many\nblock", ("bad", 7)), ("one\nor\nblock", ("bad", 8)), ("many", ("bad", 7)), ("one", ("bad", 7)), ("one\nor", ("bad", 8)),
                ("many\nend\nend", ("bad", 8)), ("many\nend\nmany\nend\none\nor\nend\nmany\nmany\nend\nend", ("told",)), ("one\nmany\nor", ("bad", 8)),
                ("end 1", ("bad", 6)), ("one 2", ("bad", 6))):
            found = outcome(read_program, head + inner)
            self.assertEqual(found[:len(wanted)], wanted, inner)
            self.assertEqual(found, program_by(head + inner))


class Tellings(unittest.TestCase):

    def test_written_and_read(self):
        rng, told = rng_of(5), 0
        for _ in range(80):
            program = clean_program(rng, rings=False)
            telling = cheapest_telling(program)
            if telling is None:
                continue
            told += 1
            text = text_of(telling_lines(telling))
            self.assertEqual(telling_text(telling), text)
            self.assertEqual(telling_text([telling[0], [list(own) for own in telling[1]]]), text)
            self.assertEqual(read_telling(text), telling)
            self.assertEqual(read_telling(text[:-1]), telling)
            self.assertIs(is_telling(program, read_telling(text)), True)
            self.assertEqual(outcome(read_telling, text + "\n"), ("bad", text.count("\n")))
        self.assertGreater(told, 20)

    def test_any_terms(self):
        """What no program tells is read and written, too."""
        for telling in (((), ()), ((10 ** 999,), (((10 ** 999, "pass"), 10 ** 999),)), ((0,), (((0, "put"), 1), ((0, "put"), 2), ((0, "read", (0, 7)), 9))),
                        ((), (((0, "read", (0,)), 1), ((0, "read", (0, 0)), 1), ((0, "read", (1,)), 1), ((0, "turn"), 1)))):
            text = text_of(telling_lines(telling))
            self.assertEqual(telling_text(telling), text)
            self.assertEqual(read_telling(text), telling)

    def test_bent(self):
        rng, told = rng_of(6), {}
        texts = ["run 1,0\nlook 1 put 1\nlook 2 put 1\n", "run -\nlook 0 read 0,1 2\nlook 0 turn 1\nlook 12 pass 4\n", "run 0\n", "run 10,2\nlook 9 put 1\nlook 10 put 1"]
        for _ in range(5000):
            text = rng.choice(texts)
            for _ in range(rng.choice((0, 1, 1, 2))):
                text = bent(rng, text)
            wanted = telling_by(text)
            self.assertEqual(outcome(read_telling, text), wanted, text)
            told[wanted[0]] = told.get(wanted[0], 0) + 1
        self.assertGreater(min(told.values()), 500)

    def test_edges(self):
        for text, number in (("", 0), ("\n", 0), ("run", 0), ("run 1 0", 0), ("look 0 put 1", 0), ("run -\nrun -", 1), ("run -\nlook 0 put 0", 1),
                             ("run -\nlook 0 put", 1), ("run -\nlook 0 read 1", 1), ("run -\nlook 0 read - 1", 1), ("run -\nlook 0 put 1 1", 1),
                             ("run -\nlook 0 put 1\nlook 0 put 1", 2), ("run -\nlook 0 turn 1\nlook 0 put 1", 2), ("run -\nlook 0 say 1", 1),
                             ("run -\nlook 1 put 1\nlook 0 put 1\nlook", 2), ("run -\nlook - put 1", 1), ("run -\n\n", 1), ("run -\nlook 0  put 1", 1)):
            self.assertEqual(outcome(read_telling, text), ("bad", number), text)
            self.assertEqual(telling_by(text), ("bad", number))
        self.assertEqual(read_telling("run -"), ((), ()))

    def test_samples(self):
        self.assertEqual(len(small), 3)
        for program in SAMPLES:
            for run in some_runs(program, 6, 4, 4):
                self.assertEqual(read_telling(telling_text((run, ()))), (run, ()))


if __name__ == "__main__":
    unittest.main()
