"""What is a name, a number's writing, an atom's writing."""

LETTERS = "abcdefghijklmnopqrstuvwxyz"
FIGURES = "0123456789"
MOST_LETTERS = 8
MOST_FIGURES = 12

NO_NAMES = (
    "fun", "way", "say", "leave", "if", "else", "stretch", "clean",
    "call", "on", "out", "again", "end", "fault",
)


def is_name(thing):
    """Whether the thing, of whatever kind, is a name."""
    if not isinstance(thing, str) or thing in NO_NAMES:
        return False
    return made_of(thing, LETTERS, MOST_LETTERS)


def is_number(thing):
    """Whether the thing, of whatever kind, is a number's writing."""
    if not isinstance(thing, str):
        return False
    figures = thing[1:] if thing.startswith("-") else thing
    if not made_of(figures, FIGURES, MOST_FIGURES):
        return False
    # 0 is not below 0: with a "-" ahead it is no number's writing either.
    return figures[0] != "0" or thing == "0"


def is_atom(thing):
    """Whether the thing, of whatever kind, is an atom's writing."""
    return is_number(thing) or is_name(thing)


def atom_of(word):
    """The whole number or the name that an atom's writing writes."""
    return int(word) if is_number(word) else word


def made_of(text, signs, most):
    """Whether the text is of 1 to most signs, all of them among the given ones."""
    # isalpha and isdigit won't do here: they hold of signs beyond a to z and 0 to 9, too.
    return 1 <= len(text) <= most and all([sign in signs for sign in text])
