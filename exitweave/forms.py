"""The forms of a program's lines: whether words have one of them."""

from exitweave.words import is_atom, is_name

SIGNS = ("+", "-", "*", "/")
ORDERS = ("<", "=")
COUNTS = ("0", "1", "2", "3")


def has_form(words, form):
    """Whether the words have the form, a text of kinds and of words that stand for themselves.

    The kind ahead of a last ".." stands as often as there are words left for it, perhaps never.
    """
    kinds = form.split(" ")
    if kinds[-1] == "..":
        kinds = kinds[:-2] + [kinds[-2]] * (len(words) - len(kinds) + 2)
    if len(words) != len(kinds):
        return False
    return all([is_of_kind(word, kind) for word, kind in zip(words, kinds)])


def is_of_kind(word, kind):
    """Whether the word is of the kind, or is that very word where it is none of the kinds."""
    if kind == "NAME":
        return is_name(word)
    if kind == "ATOM":
        return is_atom(word)
    if kind == "WAY":
        return word == "end" or is_name(word)
    if kind == "SIGN":
        return word in SIGNS
    if kind == "ORDER":
        return word in ORDERS
    if kind == "COUNT":
        return word in COUNTS
    return word == kind
