"""Labels threaded over jumps, and what is idle dropped."""

from exitweave.code import Code, Jump, Label, Piece, is_call
from exitweave.leads import label_spots, led, over_labels


def threaded(code):
    """The code in which each step leads to the last label to which its labels lead over jumps."""
    return Code([threaded_piece(piece) for piece in code.pieces])


def threaded_piece(piece):
    """The piece with each label threaded, but in the Labels themselves."""
    spots = label_spots(piece.steps)
    lasts = {}
    for label in spots:
        lasts[label] = led(piece.steps, spots, label)[0]
    steps = [step if isinstance(step, Label) else step.relabelled(lasts) for step in piece.steps]
    return Piece(piece.name, piece.params, piece.ways, steps)


def dropped(code):
    """The code without what is idle."""
    # Steps first: dropping pieces makes no step of another one idle, but idle steps may be all that calls a piece.
    pieces = [dropped_piece(piece) for piece in code.pieces]
    kept = called_names(pieces)
    return Code([piece for piece in pieces if piece.name in kept])


def dropped_piece(piece):
    """The piece without idle steps."""
    steps = piece.steps
    kept = kept_steps(steps)
    while len(kept) < len(steps):
        steps = kept
        kept = kept_steps(steps)
    return Piece(piece.name, piece.params, piece.ways, kept)


def kept_steps(steps):
    """The steps but for those that are idle as they stand now; without them others may be idle."""
    spots = label_spots(steps)
    reached = reached_spots(steps, spots)
    used = used_labels(steps)
    kept = []
    for spot, step in enumerate(steps):
        if isinstance(step, Label):
            idle = step.label not in used
        else:
            idle = spot not in reached or jumps_nowhere(steps, spots, spot)
        if not idle:
            kept.append(step)
    return kept


def reached_spots(steps, spots):
    """The spots that can be come to from the first one, as a dict of True."""
    reached = {}
    due = [0]
    while due:
        spot = due.pop()
        if spot < len(steps) and spot not in reached:
            reached[spot] = True
            due.extend([spots[label] for label in steps[spot].labels()])
            if steps[spot].goes_on():
                due.append(spot + 1)
    return reached


def used_labels(steps):
    """The labels to which steps lead, as a dict of True."""
    used = {}
    for step in steps:
        for label in step.labels():
            used[label] = True
    return used


def jumps_nowhere(steps, spots, spot):
    """Whether a Jump stands there whose label stands behind it at once, or behind Labels alone."""
    step = steps[spot]
    return isinstance(step, Jump) and spot < spots[step.label] < over_labels(steps, spot + 1)


def called_names(pieces):
    """The names of the pieces to which the first one leads, and its own, as a dict of True."""
    named = {}
    for piece in pieces:
        named[piece.name] = piece
    called = {}
    due = [piece.name for piece in pieces[:1]]
    while due:
        name = due.pop()
        if name in named and name not in called:
            called[name] = True
            due.extend([step.callee for step in named[name].steps if is_call(step)])
    return called


def went(before, after):
    """The marks of the one code that stand in none of the other's steps, rising."""
    left = {}
    for mark in marks_of(after):
        left[mark] = True
    return sorted([mark for mark in marks_of(before) if mark not in left])


def marks_of(code):
    """The marks of all steps of a code."""
    marks = []
    for piece in code.pieces:
        marks.extend([step.mark for step in piece.steps])
    return marks
