"""Programs, and what they answer."""

from saidandasked.errors import BadProgram, BadWord
from saidandasked.houses import answer_names, call_names, is_house, is_word
from saidandasked.kinds import is_index, is_string_among, is_told, is_tuple_of


def is_program(thing):
    """Whether any value is a program."""
    if not is_told(thing, "program", 3) or not is_house(thing[1]):
        return False
    rows = thing[2]
    if not isinstance(rows, tuple) or not rows:
        return False
    by_call = answer_names(thing[1])
    return all(is_state_row(by_call, len(rows), row) for row in rows)


def is_state_row(by_call, many, row):
    """Whether any value has for each call, in order, a pair of an answer and one of so many states."""
    if not is_tuple_of(row, len(by_call)):
        return False
    return all(is_entry(names, many, pair) for names, pair in zip(by_call, row))


def is_entry(names, many, pair):
    """Whether any value is a pair of one of these answers and one of so many states."""
    return is_tuple_of(pair, 2) and is_string_among(pair[0], names) and is_index(pair[1], many)


def need_program_and_word(program, word):
    """Raise the errors of what is asked of a program and a word."""
    if not is_program(program):
        raise BadProgram("no program")
    if not is_word(program[1], word):
        raise BadWord("no word of the program's house")


def entries_of(program, word):
    """The list of the pairs (answer, state) to which the calls of the word lead, one behind another."""
    number = {name: at for at, name in enumerate(call_names(program[1]))}
    found = []
    state = 0
    for call in word:
        pair = program[2][state][number[call]]
        found.append(pair)
        state = pair[1]
    return found


def answers(program, word):
    """The tuple of the answers to the word's calls, one behind another."""
    need_program_and_word(program, word)
    return tuple(pair[0] for pair in entries_of(program, word))


def history(program, word):
    """The history of the program on the word."""
    need_program_and_word(program, word)
    return tuple((call, pair[0]) for call, pair in zip(word, entries_of(program, word)))


def state_behind(program, word):
    """The state behind the word."""
    need_program_and_word(program, word)
    found = entries_of(program, word)
    return found[-1][1] if found else 0
