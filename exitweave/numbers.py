"""Whole numbers: how they are reckoned and compared, which are let into a run, and what a run ends with."""

from exitweave.errors import NoRun

NOUGHT = 0
GREAT = 1
FAULT_WORDS = ("nought", "great")
MOST_FUEL = 2000


def reckoned(op, one, other):
    """(True, the result) of two numbers by one of the four signs, or (False, the fault's number)."""
    if op == "/" and other == 0:
        return (False, NOUGHT)
    result = result_of(op, one, other)
    return (True, result) if has_few_figures(result) else (False, GREAT)


def result_of(op, one, other):
    """The result by the sign, however many figures it has."""
    if op == "+":
        return one + other
    if op == "-":
        return one - other
    if op == "*":
        return one * other
    return one // other


def fault_word(number):
    """The word of the fault of this number."""
    return FAULT_WORDS[number]


def last_of(way, values):
    """What is told last of a run that ends by the way with this tuple of values."""
    return ("fault", fault_word(values[0])) if way == "fault" else ("way", way, values)


def holds(sign, one, other):
    """Whether the first number is less than the second one, or equal to it, by the sign."""
    return one < other if sign == "<" else one == other


def has_few_figures(number):
    """Whether the number has at most forty figures."""
    return abs(number) < 10 ** 40


def is_whole(thing):
    """Whether the thing is a whole number; a truth is none."""
    return isinstance(thing, int) and not isinstance(thing, bool)


def check_run(numbers, count, fuel):
    """Refuses what is no list of so many numbers that a run may be handed, then what is no fuel."""
    if not isinstance(numbers, list) or len(numbers) != count:
        raise NoRun(numbers)
    if not all([is_whole(number) and has_few_figures(number) for number in numbers]):
        raise NoRun(numbers)
    if not is_whole(fuel) or not 0 <= fuel <= MOST_FUEL:
        raise NoRun(fuel)
