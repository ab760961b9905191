"""The lines of a layout's text, read word by word."""

from exitweave.code import Compute, Enter, Handon, Jump, Move, Return, Send, Summon, Tell, Test
from exitweave.errors import NoCode
from exitweave.forms import ORDERS, SIGNS
from exitweave.words import FIGURES, atom_of, is_name, is_number, made_of

MOST_PARAMS = 4
MOST_WAYS = 10


class Line:
    """The words of a line, taken one by one from the left; where they don't fit the line is refused."""

    def __init__(self, place, written):
        self.place = place
        self.left = list(written)

    def require(self, held):
        """Refuses the line where something that is asked of it does not hold."""
        if not held:
            raise NoCode(self.place)

    def begins(self, word):
        """Whether this word is the next one."""
        return self.left[:1] == [word]

    def take(self):
        """The next word, whatever it is."""
        self.require(len(self.left) > 0)
        return self.left.pop(0)

    def take_where(self, fits):
        """The next word, of which the function must hold."""
        word = self.take()
        self.require(fits(word))
        return word

    def take_name(self):
        """A name."""
        return self.take_where(is_name)

    def take_number(self):
        """A number from 0 on."""
        return int(self.take_where(is_count))

    def take_sign(self, signs):
        """One of the signs."""
        return self.take_where(lambda word: word in signs)

    def take_goal(self):
        """A name of a frame."""
        return self.take_where(is_frame_name)

    def take_atom(self):
        """A whole number, or a name of a frame."""
        return atom_of(self.take_where(is_frame_atom))

    def take_words(self):
        """A count, and so many words."""
        return [self.take() for number in range(self.take_number())]

    def take_atoms(self):
        """A count, and so many atoms."""
        return [self.take_atom() for number in range(self.take_number())]

    def take_goals(self):
        """A count, and so many names of a frame, each once."""
        goals = [self.take_goal() for number in range(self.take_number())]
        self.require(stand_once(goals))
        return goals

    def take_pairs(self):
        """A count, and so many goals, each with an atom; each goal once."""
        pairs = [(self.take_goal(), self.take_atom()) for number in range(self.take_number())]
        self.require(stand_once([goal for goal, atom in pairs]))
        return pairs


class Scope:
    """What the rows of one piece are held against: all entries, the piece's own, and where its rows end."""

    def __init__(self, entries, own, behind):
        self.entries = entries
        self.own = own
        self.behind = behind

    def take_row(self, line):
        """The number of one of the piece's rows."""
        number = line.take_number()
        line.require(self.own[1] <= number < self.behind)
        return number

    def take_way(self, line):
        """The number of one of the piece's ways."""
        number = line.take_number()
        line.require(number < len(self.own[3]))
        return number

    def take_lead(self, line):
        """A way of the piece, to which another one's way is handed on, or -1."""
        if line.begins("-1"):
            return int(line.take())
        return self.take_way(line)

    def take_arm(self, line):
        """An arm: a row and goals, or None."""
        if line.begins("-"):
            line.take()
            return None
        return (self.take_row(line), line.take_goals())

    def take_callee(self, line):
        """The entry of the piece of this name."""
        called = [entry for entry in self.entries if line.begins(entry[0])]
        line.require(len(called) > 0)
        line.take()
        return called[0]


def read_entries(lines, count):
    """The entries of a layout with so many rows."""
    entries = []
    for line in lines:
        entry = read_entry(line)
        if entries:
            line.require(entries[-1][1] < entry[1] < count)
        else:
            line.require(entry[1] == 0)
        line.require(entry[0] not in [ahead[0] for ahead in entries])
        entries.append(entry)
    return entries


def read_entry(line):
    """The entry that one line tells."""
    line.take()
    name = line.take_name()
    first = line.take_number()
    params = line.take_words()
    ways = line.take_words()
    line.require(not line.left)
    line.require(len(params) <= MOST_PARAMS and are_names(params))
    line.require(len(ways) <= MOST_WAYS and ways[:2] == ["fault", "end"] and are_names(ways[2:]))
    return (name, first, params, ways)


def read_flat_rows(lines, entries):
    """The rows of a layout that has these entries."""
    behind = [entry[1] for entry in entries[1:]] + [len(lines)]
    rows = []
    marks = {}
    for own, end in zip(entries, behind):
        scope = Scope(entries, own, end)
        for line in lines[own[1]:end]:
            row = read_flat_row(line, scope)
            line.require(row.mark not in marks)
            marks[row.mark] = True
            rows.append(row)
            line.require(len(rows) < end or not row.goes_on())
    return rows


def read_flat_row(line, scope):
    """The row that one line tells."""
    word = line.take()
    mark = (line.take_name(), line.take_number())
    if word in ("summon", "handon"):
        row = row_with_call(word, mark, line, scope)
    else:
        row = row_without_call(word, mark, line, scope)
    line.require(not line.left)
    return row


def row_with_call(word, mark, line, scope):
    """A summon or a handon, with as many atoms, arms or ways as the piece called has parameters and ways."""
    entry = scope.take_callee(line)
    atoms = line.take_atoms()
    count = line.take_number()
    line.require(len(atoms) == len(entry[2]) and count == len(entry[3]))
    if word == "summon":
        return Summon(mark, entry[0], atoms, [scope.take_arm(line) for number in range(count)])
    return Handon(mark, entry[0], atoms, [scope.take_lead(line) for number in range(count)])


def row_without_call(word, mark, line, scope):
    """A row that calls no piece, by its word."""
    if word == "move":
        return Move(mark, line.take_goal(), line.take_atom())
    if word == "compute":
        goal = line.take_goal()
        return Compute(mark, goal, line.take_sign(SIGNS), line.take_atom(), line.take_atom(), scope.take_row(line))
    if word == "tell":
        return Tell(mark, line.take_atom())
    if word == "test":
        return Test(mark, line.take_sign(ORDERS), line.take_atom(), line.take_atom(), scope.take_row(line))
    if word == "jump":
        return Jump(mark, scope.take_row(line))
    if word == "enter":
        return Enter(mark, line.take_pairs(), line.take_goals())
    if word == "send":
        return Send(mark, line.take_pairs(), scope.take_row(line))
    if word == "return":
        return Return(mark, scope.take_way(line), line.take_atoms())
    raise NoCode(line.place)


def is_count(word):
    """Whether the word writes a number from 0 on."""
    return is_number(word) and not word.startswith("-")


def is_frame_name(word):
    """Whether the word is a name of a frame: a name or `fault`, and names or figures behind it, parted by points."""
    parts = word.split(".")
    if not is_name(parts[0]) and parts[0] != "fault":
        return False
    return all([is_name(part) or made_of(part, FIGURES, 1) for part in parts[1:]])


def is_frame_atom(word):
    """Whether the word is an atom of a row."""
    return is_number(word) or is_frame_name(word)


def are_names(words):
    """Whether all the words are names, each of them once."""
    return stand_once(words) and all([is_name(word) for word in words])


def stand_once(words):
    """Whether no word stands twice."""
    return len(set(words)) == len(words)
