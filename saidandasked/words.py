"""Names, and the words of a text."""

from saidandasked.errors import BadText

KEPT = (
    "answer", "ask", "call", "clause", "copy", "document", "draw", "false", "give", "house",
    "inner", "law", "never", "node", "outer", "program", "state", "true", "wait",
)


def is_name(thing):
    """Whether any value is a name: 1 to 8 letters from a to z that are no kept word."""
    if not isinstance(thing, str) or not 1 <= len(thing) <= 8:
        return False
    return all("a" <= letter <= "z" for letter in thing) and thing not in KEPT


def is_text(thing):
    """Whether any value is a string of line feeds and characters from the blank to ~."""
    return isinstance(thing, str) and all(sign == "\n" or " " <= sign <= "~" for sign in thing)


def is_joined(sign):
    """Whether a character of a text stands in one word with others of its kind."""
    return sign == "_" or sign.isalnum()


def words_of(text):
    """The list of the triples (word, line, column) of a text."""
    if not is_text(text):
        raise BadText(None, None, None)
    found = []
    for at, line in enumerate(text.split("\n")):
        found.extend(words_of_line(line, at + 1))
    return found


def words_of_line(line, number):
    """The triples of the words of one line, which has this number."""
    found = []
    start = 0
    while start < len(line):
        end = start + 1
        if is_joined(line[start]):
            while end < len(line) and is_joined(line[end]):
                end += 1
        if line[start] != " ":
            found.append((line[start:end], number, start + 1))
        start = end
    return found
