"""Layouts: codes as numbered rows, written as texts and read from them."""

from exitweave.code import Label
from exitweave.errors import NoCode
from exitweave.rowreader import Line, read_entries, read_flat_rows


class Layout:
    """Rows without Labels, and for each piece an entry: a tuple (name, first row, parameters, ways)."""

    def __init__(self, rows, entries):
        self.rows = list(rows)
        self.entries = [(name, first, list(params), list(ways)) for name, first, params, ways in entries]

    def text(self):
        """The layout as a text: a line for each entry, then a line for each row."""
        lines = [entry_words(entry) for entry in self.entries] + [row.words() for row in self.rows]
        return "\n".join([" ".join(words) for words in lines])


def entry_words(entry):
    """The words of an entry's line."""
    params = entry[2]
    ways = entry[3]
    return ["piece", entry[0], str(entry[1]), str(len(params))] + params + [str(len(ways))] + ways


def laid(code):
    """The code laid out."""
    rows = []
    entries = []
    for piece in code.pieces:
        entries.append((piece.name, len(rows), piece.params, piece.ways))
        numbers = row_numbers(piece.steps, len(rows))
        rows.extend([step.relabelled(numbers) for step in piece.steps if not isinstance(step, Label)])
    return Layout(rows, entries)


def row_numbers(steps, first):
    """The number of the first row behind each label, where the first step that is no Label has this number."""
    numbers = {}
    for step in steps:
        if isinstance(step, Label):
            numbers[step.label] = first
        else:
            first = first + 1
    return numbers


def read_layout(text):
    """The layout that the text writes; what is none is refused."""
    if not isinstance(text, str):
        raise NoCode(0)
    lines = [Line(place, line.split(" ")) for place, line in enumerate(text.split("\n"), start=1)]
    told = 0
    while told < len(lines) and lines[told].begins("piece"):
        told = told + 1
    if told == 0:
        raise NoCode(1)
    entries = read_entries(lines[:told], len(lines) - told)
    if told == len(lines):
        raise NoCode(told + 1)
    return Layout(read_flat_rows(lines[told:], entries), entries)
