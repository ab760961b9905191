"""Where the labels of a piece stand among its steps, and where they lead."""

from exitweave.code import Jump, Label


def label_spots(steps):
    """The spot of each label among the steps."""
    spots = {}
    for spot, step in enumerate(steps):
        if isinstance(step, Label):
            spots[step.label] = spot
    return spots


def over_labels(steps, spot):
    """The first spot from this one on at which no Label stands; as many as there are steps where there is none."""
    while spot < len(steps) and isinstance(steps[spot], Label):
        spot = spot + 1
    return spot


def led(steps, spots, label):
    """The last label to which this one leads over Labels and Jumps alone, and the step behind that one.

    In the step's place stands None where there is no step behind it, or where Jumps lead round.
    """
    seen = {}
    while label not in seen:
        seen[label] = True
        spot = over_labels(steps, spots[label])
        if spot == len(steps):
            return (label, None)
        step = steps[spot]
        if not isinstance(step, Jump):
            return (label, step)
        label = step.label
    return (label, None)
