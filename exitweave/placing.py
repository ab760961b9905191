"""Pieces put in place where they are called just once."""

from exitweave.code import Code, Enter, Handon, Label, Piece, Return, Send, Summon, is_call


def placed(code):
    """The code with one piece behind the other put in place, as long as one may be."""
    pieces = list(code.pieces)
    piece = placeable(pieces)
    while piece is not None:
        pieces = [with_placed(other, piece) for other in pieces if other.name != piece.name]
        piece = placeable(pieces)
    return Code(pieces)


def placeable(pieces):
    """The first piece that may be put in place, None where none may."""
    called = call_counts(pieces)
    for piece in pieces[1:]:
        if called.get(piece.name, 0) == 1 and not calls(piece, piece.name):
            return piece
    return None


def call_counts(pieces):
    """In how many steps each name stands as callee."""
    counts = {}
    for piece in pieces:
        for step in piece.steps:
            if is_call(step):
                counts[step.callee] = counts.get(step.callee, 0) + 1
    return counts


def calls(piece, name):
    """Whether a step of the piece calls the piece of this name."""
    return any([is_call(step) and step.callee == name for step in piece.steps])


def with_placed(host, piece):
    """The host with the piece put in place where it calls it, the host itself where it does not."""
    if not calls(host, piece.name):
        return host
    steps = []
    for step in host.steps:
        if is_call(step) and step.callee == piece.name:
            steps.append(entering(step, piece))
            steps.extend(steps_in_place(step, piece))
        else:
            steps.append(step)
    return Piece(host.name, host.params, host.ways, steps)


def entering(row, piece):
    """The step that stands in the row's place."""
    pairs = [(own_name(piece, param), atom) for param, atom in zip(piece.params, row.atoms)]
    return Enter(row.mark, pairs, [own_name(piece, name) for name in zeroed_names(piece)])


def own_name(piece, name):
    """What a name or a label of the piece is called where it is put in place."""
    return piece.name + "." + name


def zeroed_names(piece):
    """The names that the piece's steps tell, but for its parameters, rising."""
    names = {}
    for step in piece.steps:
        for name in step.named():
            names[name] = True
    return sorted([name for name in names if name not in piece.params])


def steps_in_place(row, piece):
    """The piece's steps as they stand behind the enter in the row's place."""
    labels = own_labels(piece)
    steps = []
    for step in piece.steps:
        own = step.renamed(piece.name).relabelled(labels)
        own = summoned(own, row.arms) if isinstance(row, Summon) else handed_on(own, row.ways)
        if own is not None:
            steps.append(own)
    return steps


def own_labels(piece):
    """What each label of the piece is called where it is put in place."""
    labels = {}
    for step in piece.steps:
        if isinstance(step, Label):
            labels[step.label] = own_name(piece, step.label)
    return labels


def summoned(step, arms):
    """What stands for a step of a piece in the place of a summon with these arms; None where it is left out."""
    if isinstance(step, Return):
        arm = arms[step.way]
        return None if arm is None else Send(step.mark, list(zip(arm[1], step.atoms)), arm[0])
    if isinstance(step, Handon):
        taken = [None if way == -1 else arms[way] for way in step.ways]
        return Summon(step.mark, step.callee, step.atoms, taken)
    return step


def handed_on(step, ways):
    """What stands for a step of a piece in the place of a handon with these ways; None where it is left out."""
    if isinstance(step, Return):
        return None if ways[step.way] == -1 else Return(step.mark, ways[step.way], step.atoms)
    if isinstance(step, Handon):
        return Handon(step.mark, step.callee, step.atoms, [-1 if way == -1 else ways[way] for way in step.ways])
    return step
