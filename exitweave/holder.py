"""Numbers held by names, while a function or a piece is done."""


class Holder:
    """Holds numbers by names: first those of the parameters, and 0 for each name that nothing was put into."""

    def __init__(self, params, numbers):
        self.variables = dict(zip(params, numbers))

    def worth(self, atom):
        """The number that an atom has now."""
        return self.variables.get(atom, 0) if isinstance(atom, str) else atom

    def worths(self, atoms):
        """The numbers that the atoms have now, in their order."""
        return [self.worth(atom) for atom in atoms]

    def put(self, goals, values):
        """Puts the values by the goals, in their order."""
        for goal, value in zip(goals, values):
            self.variables[goal] = value
