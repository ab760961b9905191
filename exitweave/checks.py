"""Whether the names and counts on the lines of a program agree with one another."""

from exitweave.errors import Doubled, Unknown, WrongCount
from exitweave.trees import Call, Leave, On, Out


def check_program(program):
    """Refuses the first line that has a name twice, a name that is not there, or a wrong count."""
    names = {}
    for function in program.functions:
        check_head(function, names)
        check_ways(function)
        check_rows(program, function, function.rows)
        names[function.name] = True


def check_head(function, names):
    """The function's line; names are those of the functions ahead of it."""
    if function.name in names:
        raise Doubled(function.place, function.name)
    check_once(function.place, function.params)


def check_once(place, names):
    """The names on one line that may stand there once each."""
    for spot, name in enumerate(names):
        if name in names[:spot]:
            raise Doubled(place, name)


def check_ways(function):
    """The lines of the declared ways, which stand straight behind the function's line."""
    names = [name for name, count in function.ways]
    for spot, name in enumerate(names):
        if name in names[:spot]:
            raise Doubled(function.place + 1 + spot, name)


def check_rows(program, function, rows):
    """The rows of a block of the function, with all that stands in them; clean-up rows name nothing to ask for."""
    for row in rows:
        if isinstance(row, Leave):
            check_leave(function, row)
        elif isinstance(row, Call):
            check_call(program, function, row)
        else:
            for place, number, within in row.blocks():
                check_rows(program, function, within)


def check_leave(function, row):
    """A leave: the function's way and how many values it has."""
    count = count_asked(function, row.way, row.place)
    if len(row.atoms) != count:
        raise WrongCount(row.place, row.way)


def check_call(program, function, row):
    """A call: the function called, how many parameters it has, and the arms."""
    callee = program.function(row.callee)
    if callee is None:
        raise Unknown(row.place, row.callee)
    if len(row.atoms) != len(callee.params):
        raise WrongCount(row.place, row.callee)
    ways = {}
    for arm in row.arms:
        if arm.way in ways:
            raise Doubled(arm.place, arm.way)
        ways[arm.way] = True
        check_arm(function, callee, arm)
        if isinstance(arm, On):
            check_rows(program, function, arm.rows)


def check_arm(function, callee, arm):
    """An arm's own line, but for whether its way has an arm already."""
    if isinstance(arm, Out):
        check_out(function, callee, arm)
        return
    check_once(arm.place, arm.goals)
    count = count_asked(callee, arm.way, arm.place)
    if len(arm.goals) != count:
        raise WrongCount(arm.place, arm.way)


def check_out(function, callee, arm):
    """An arm `out`: the way of the function called, then the own way."""
    count = count_asked(callee, arm.way, arm.place)
    if count_asked(function, arm.own, arm.place) != count:
        raise WrongCount(arm.place, arm.own)


def count_asked(function, way, place):
    """How many values the way has, asked for on the line of this place."""
    count = function.count_of(way)
    if count is None:
        raise Unknown(place, way)
    return count
