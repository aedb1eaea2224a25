"""Things that are met one behind another, with the way on which each was met first."""


class Walk:
    """What is met from a first thing. Looked at in the order of found, the ways are the shortest, first ones."""

    def __init__(self, first):
        self.found = [first]
        self.number = {first: 0}
        self.came_by = [None]

    def begin(self, thing):
        """Meet one more thing to which no step leads."""
        if thing not in self.number:
            self.number[thing] = len(self.found)
            self.found.append(thing)
            self.came_by.append(None)

    def meet(self, thing, at, step):
        """Meet a thing by a step from the one with the index at."""
        if thing not in self.number:
            self.number[thing] = len(self.found)
            self.found.append(thing)
            self.came_by.append((at, step))

    def way(self, at):
        """The list of the steps on which the thing with the index at was met."""
        steps = []
        while self.came_by[at] is not None:
            at, step = self.came_by[at]
            steps.append(step)
        steps.reverse()
        return steps
