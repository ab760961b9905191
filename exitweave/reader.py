"""A text is read as a program, or refused."""

from exitweave.checks import check_program
from exitweave.errors import NoProgram, TooMuch
from exitweave.forms import has_form
from exitweave.trees import Again, Call, Copy, Function, If, Leave, On, Out, Program, Reckon, Say, Stretch
from exitweave.words import atom_of

MOST_FUNCTIONS = 40
MOST_PARAMS = 4
MOST_WAYS = 8
MOST_LINES = 400
MOST_DEPTH = 14


def read_program(text):
    """The program that the text writes; what is wrong with a line by itself is told first, over all lines."""
    if not isinstance(text, str):
        raise NoProgram(0)
    program = Program(read_functions(Source(text)))
    check_program(program)
    return program


class Source:
    """The lines of a text: the next one is looked at until it is known to be right, and taken then.

    So each line is refused, or passes its bounds, ahead of the line behind it.
    """

    def __init__(self, text):
        self.written = text.split("\n")
        self.taken = 0

    def here(self):
        """The place of the next line."""
        return self.taken + 1

    def depth(self):
        """The depth of the next line, -1 behind the last one."""
        if self.taken == len(self.written):
            return -1
        line = self.written[self.taken]
        return (len(line) - len(line.lstrip(" "))) // 2

    def words_at(self, depth):
        """The words of the next line, which has to stand at this depth.

        Where it is empty, or has a blank too many anywhere, there is a word without signs, which no form has.
        """
        if self.depth() != depth:
            raise NoProgram(self.here())
        return self.written[self.taken][2 * depth:].split(" ")

    def take(self):
        """Goes on to the line behind; the place of the one taken."""
        place = self.here()
        if place > MOST_LINES or self.depth() > MOST_DEPTH:
            raise TooMuch(place)
        self.taken = place
        return place

    def take_word(self, word, depth):
        """Takes the next line, which has to be this one word at this depth; its place."""
        if self.words_at(depth) != [word]:
            raise NoProgram(self.here())
        return self.take()


def read_functions(source):
    """All functions, to the end of the text."""
    functions = []
    while source.depth() >= 0:
        functions.append(read_function(source, len(functions)))
    return functions


def read_function(source, ahead):
    """A function, with so many functions ahead of it."""
    place = source.here()
    words = source.words_at(0)
    if not has_form(words, "fun NAME NAME .."):
        raise NoProgram(place)
    if ahead == MOST_FUNCTIONS or len(words[2:]) > MOST_PARAMS:
        raise TooMuch(place)
    source.take()
    ways = read_ways(source)
    return Function(place, words[1], words[2:], ways, read_rows(source, 1))


def read_ways(source):
    """The declared ways of a function, as tuples (name, count); a line that is none of them is left for the rows."""
    ways = []
    while source.depth() == 1 and has_form(source.words_at(1), "way NAME COUNT"):
        if len(ways) == MOST_WAYS:
            raise TooMuch(source.here())
        words = source.words_at(1)
        source.take()
        ways.append((words[1], int(words[2])))
    return ways


def read_rows(source, depth):
    """The rows that stand at this depth, to the first line that stands higher."""
    rows = []
    while source.depth() >= depth:
        rows.append(read_row(source, depth))
    return rows


def read_row(source, depth):
    """A row, with all that stands in it."""
    words = source.words_at(depth)
    if has_form(words, "if ATOM ORDER ATOM"):
        return read_if(source, depth)
    if has_form(words, "stretch"):
        return read_stretch(source, depth)
    if has_form(words, "call NAME ATOM .."):
        return read_call(source, depth)
    return read_plain(source, depth)


def read_plain(source, depth):
    """A row in which no other rows stand."""
    words = source.words_at(depth)
    row = plain_row(source.here(), words)
    source.take()
    return row


def plain_row(place, words):
    """The copy, reckoning, saying or leave that these words write."""
    if has_form(words, "NAME = ATOM"):
        return Copy(place, words[0], atom_of(words[2]))
    if has_form(words, "NAME = ATOM SIGN ATOM"):
        return Reckon(place, words[0], words[3], atom_of(words[2]), atom_of(words[4]))
    if has_form(words, "say ATOM"):
        return Say(place, atom_of(words[1]))
    if has_form(words, "leave WAY ATOM .."):
        return Leave(place, words[1], atoms_of(words[2:]))
    raise NoProgram(place)


def read_if(source, depth):
    """An if, with both its blocks and the line `else` between."""
    words = source.words_at(depth)
    place = source.take()
    then = read_rows(source, depth + 1)
    source.take_word("else", depth)
    orelse = read_rows(source, depth + 1)
    return If(place, words[2], atom_of(words[1]), atom_of(words[3]), then, orelse)


def read_stretch(source, depth):
    """A stretch, with its rows, the line `clean` and its clean-up rows."""
    place = source.take()
    rows = read_rows(source, depth + 1)
    clean_place = source.take_word("clean", depth)
    return Stretch(place, rows, clean_place, read_clean(source, depth + 1))


def read_clean(source, depth):
    """Clean-up rows: copies and sayings alone."""
    rows = []
    while source.depth() >= depth:
        place = source.here()
        words = source.words_at(depth)
        if not has_form(words, "NAME = ATOM") and not has_form(words, "say ATOM"):
            raise NoProgram(place)
        rows.append(read_plain(source, depth))
    return rows


def read_call(source, depth):
    """A call, with its arms."""
    words = source.words_at(depth)
    place = source.take()
    arms = []
    while source.depth() > depth:
        arms.append(read_arm(source, depth + 1))
    return Call(place, words[1], atoms_of(words[2:]), arms)


def read_arm(source, depth):
    """An arm, with its rows."""
    place = source.here()
    words = source.words_at(depth)
    if has_form(words, "on WAY NAME .."):
        source.take()
        return On(place, words[1], words[2:], read_rows(source, depth + 1))
    if has_form(words, "out WAY WAY"):
        source.take()
        return Out(place, words[1], words[2])
    if has_form(words, "again WAY NAME .."):
        source.take()
        return Again(place, words[1], words[2:])
    raise NoProgram(place)


def atoms_of(words):
    """The atoms that these words write."""
    return [atom_of(word) for word in words]
