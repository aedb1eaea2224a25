"""Names that stand for nothing else: a, b, .., z, aa, ab, .., without kept words."""

from saidandasked.words import is_name

LETTERS = "abcdefghijklmnopqrstuvwxyz"


def free_names(many):
    """The tuple of the first so many free names."""
    found = []
    # The names of one length less, with the empty one in their place at first.
    shorter = [""]
    while len(found) < many:
        shorter = [name + letter for name in shorter for letter in LETTERS]
        found.extend([name for name in shorter if is_name(name)])
    return tuple(found[:many])
