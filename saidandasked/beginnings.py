"""Histories that agree, joined in one tree."""


class Beginnings:
    """The words that begin those of some histories, known by numbers; the empty one is 0."""

    def __init__(self, histories):
        # For each beginning the dict from the calls that are told behind it to (answer, number).
        self.steps = [{}]
        for history in histories:
            self.take(history)

    def take(self, history):
        """Take in a history that agrees with those taken in."""
        at = 0
        for call, answer in history:
            if call not in self.steps[at]:
                self.steps[at][call] = (answer, len(self.steps))
                self.steps.append({})
            at = self.steps[at][call][1]


def agree(one, other):
    """Whether two histories have equal answers as long as they have the same calls."""
    for left, right in zip(one, other):
        if left[0] != right[0]:
            return True
        if left[1] != right[1]:
            return False
    return True


def first_parted(histories):
    """The first pair of indexes of histories that do not agree, or None."""
    for one, history in enumerate(histories):
        for other in range(one + 1, len(histories)):
            if not agree(history, histories[other]):
                return one, other
    return None
