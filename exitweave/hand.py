"""Tables handed on: calls all of whose arms lead straight out."""

from exitweave.code import Code, Handon, Piece, Return, Summon
from exitweave.leads import label_spots, led


def straight(piece, arm):
    """The number of the way to which the arm leads straight, None where it leads straight nowhere."""
    return straight_way(piece.steps, label_spots(piece.steps), arm)


def handed(code):
    """The code with a handon in the place of each summon that leads out."""
    return Code([handed_piece(piece) for piece in code.pieces])


def handed_piece(piece):
    """The piece with a handon in the place of each summon that leads out."""
    spots = label_spots(piece.steps)
    steps = [handed_step(piece.steps, spots, step) for step in piece.steps]
    return Piece(piece.name, piece.params, piece.ways, steps)


def handed_step(steps, spots, step):
    """The step, or a handon where it is a summon that leads out."""
    if not isinstance(step, Summon):
        return step
    ways = [-1 if arm is None else straight_way(steps, spots, arm) for arm in step.arms]
    return step if None in ways else Handon(step.mark, step.callee, step.atoms, ways)


def straight_way(steps, spots, arm):
    """The way of the return to which the arm leads over labels and jumps alone, with just its goals; else None."""
    step = led(steps, spots, arm[0])[1]
    return step.way if isinstance(step, Return) and step.atoms == arm[1] else None
