"""The generations that are there: the kinds of their copies, and the draws between them."""


class Population:
    """All generations from the one that was told to the newest; at first there are none."""

    def __init__(self):
        self.kind_rows = []
        self.draw_rows = []

    def has_copies(self):
        return len(self.kind_rows) > 0

    def generation(self):
        """The newest generation's number: each one but generation 0 has a row of draws."""
        return len(self.draw_rows)

    def size(self):
        """How many copies each generation has."""
        return len(self.kind_rows[0])

    def newest_kinds(self):
        return list(self.kind_rows[-1])

    def begin(self, kinds):
        """Generation 0 has these kinds; generations of before are gone."""
        self.kind_rows = [list(kinds)]
        self.draw_rows = []

    def turn(self, draws):
        """The next generation comes of the newest one by these draws."""
        kinds = self.kind_rows[-1]
        self.kind_rows.append([kinds[parent] for parent in draws])
        self.draw_rows.append(list(draws))

    def undo(self):
        """The newest generation is taken away."""
        self.kind_rows.pop()
        self.draw_rows.pop()
