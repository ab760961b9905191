"""Programs woven: put as codes, with passes chosen by their words; and texts run in both ways."""

from exitweave.errors import NoPass
from exitweave.hand import handed
from exitweave.layout import laid
from exitweave.lower import lowered
from exitweave.machine import Machine
from exitweave.placing import placed
from exitweave.reader import read_program
from exitweave.runner import run_trees
from exitweave.threading import dropped, threaded, went

PASSES = ("hand", "place", "thread", "drop")
MOST_PASSES = 8


def woven(program, words):
    """The program as a code behind all the passes."""
    return codes_by(program, words)[-1]


def gone(program, words):
    """For each pass its word and the marks of the steps that went by it."""
    codes = codes_by(program, words)
    return [(word, went(before, after)) for word, before, after in zip(words, codes, codes[1:])]


def both(text, words, numbers, fuel):
    """The run of the text's program as it stands, and the run of the machine behind the passes."""
    program = read_program(text)
    check_passes(words)
    run = run_trees(program, numbers, fuel)
    return (run, Machine(laid(woven(program, words))).run(numbers, fuel))


def check_passes(words):
    """Refuses what is no row of passes."""
    if not isinstance(words, list) or len(words) > MOST_PASSES:
        raise NoPass(words)
    for word in words:
        if not isinstance(word, str) or word not in PASSES:
            raise NoPass(word)


def codes_by(program, words):
    """The program as a code, and the code behind each pass."""
    check_passes(words)
    codes = [lowered(program)]
    for word in words:
        codes.append(passed(codes[-1], word))
    return codes


def passed(code, word):
    """What the pass of this word makes of the code."""
    if word == "hand":
        return handed(code)
    if word == "place":
        return placed(code)
    if word == "thread":
        return threaded(code)
    return dropped(code)
