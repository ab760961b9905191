"""What tests of passes share: pieces made by hand, and a pass held against its rule told a second time."""

import unittest

from examples import lines_of, lines_read
from exitweave.code import Code, Piece
from flat import plain, plain_step

TWO = ["fault", "end"]
FOUR = ["fault", "end", "w", "v"]


def made(name, params, ways, *makers):
    """A piece of steps, each told as a tuple of its class and its fields but for the mark."""
    steps = [maker[0]((name, number), *maker[1:]) for number, maker in enumerate(makers)]
    return Piece(name, params, ways, steps)


def told_steps(*steps):
    return [plain_step(step) for step in steps]


def read(*texts):
    """The program of texts that stand indented, each by itself."""
    return lines_read(*[line for text in texts for line in lines_of(text)])


def is_left_of(behind, ahead):
    """Whether a list is another one but for things that were left out."""
    rest = iter(ahead)
    return all(thing in rest for thing in behind)


class PassCase(unittest.TestCase):
    """A pass is done by the function that the file's cases tell as `done`, its rule on plain data as `rule`."""

    def passed(self, *pieces):
        return self.passed_code(Code(pieces))

    def passed_code(self, code):
        """The plain data of what the pass makes of a code, held against the rule and the code itself."""
        ahead = plain(code)
        told = self.done(code)
        self.assertIs(type(told), Code)
        self.assertIsNot(told, code)
        self.assertEqual(plain(code), ahead)
        self.assertEqual(plain(told), self.rule(ahead))
        self.assertEqual(plain(self.done(told)), plain(told))
        self.assertEqual(plain(self.done(code)), plain(told))
        return plain(told)

    def assert_stays(self, *pieces):
        self.assertEqual(self.passed(*pieces), plain(Code(pieces)))
