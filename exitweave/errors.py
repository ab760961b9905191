"""The refusals: each keeps what it was made of in its fields, as it is."""


class WeaveError(ValueError):
    """Any refusal."""


class NoProgram(WeaveError):
    """What was to be read as a program is none: the number of the line, 0 for what is no text."""

    def __init__(self, place):
        self.place = place


class TooMuch(WeaveError):
    """A line of a program passes a bound."""

    def __init__(self, place):
        self.place = place


class Doubled(WeaveError):
    """A name stands on a line that stood already where it may stand once."""

    def __init__(self, place, name):
        self.place = place
        self.name = name


class Unknown(WeaveError):
    """A line names a function or a way that is not there."""

    def __init__(self, place, name):
        self.place = place
        self.name = name


class WrongCount(WeaveError):
    """A line has not as many atoms, variables or values as are asked for."""

    def __init__(self, place, name):
        self.place = place
        self.name = name


class Forgotten(WeaveError):
    """A call that is come to lacks an arm for a way; the chain bears both."""

    def __init__(self, place, way, chain):
        self.place = place
        self.way = way
        self.chain = chain


class NoRun(WeaveError):
    """What was handed in as the numbers or as the fuel of a run is none."""

    def __init__(self, given):
        self.given = given


class NoCode(WeaveError):
    """What was to be read as a layout is none: the number of the line, 0 for what is no text."""

    def __init__(self, place):
        self.place = place


class NoPass(WeaveError):
    """What was handed in as a row of passes, or as a pass in it, is none."""

    def __init__(self, given):
        self.given = given
