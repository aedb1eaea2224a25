"""The lines of a desk: what forms they have, what deeds do to a page, and what questions it answers.

A page is a tuple: a document, a history of its house, and a tuple of pairs of a name and a law.
"""

from saidandasked.budgets import budget
from saidandasked.clauses import clause_names
from saidandasked.decided import is_decided
from saidandasked.errors import BadAnswer, BadCall, BadLaw, BadName, TooMany
from saidandasked.futures import futures
from saidandasked.houses import answers_by_call
from saidandasked.leads import lots_behind, stand_behind
from saidandasked.makers import made, only
from saidandasked.narrow import is_narrower
from saidandasked.needs import need_one_house
from saidandasked.pools import idle
from saidandasked.programs import answers
from saidandasked.promises import missed
from saidandasked.quarrels import quarrels
from saidandasked.ranks import rank_of
from saidandasked.reading import read, read_clause
from saidandasked.rights import verdict
from saidandasked.texts import text_of
from saidandasked.verdicts import law_verdict
from saidandasked.wants import number_told
from saidandasked.words import is_name, words_of

MOST_CLAUSES = 8
MOST_LAWS = 6

# How many names stand behind the first word of a line, where their number is told.
NAMES_BEHIND = {
    "saw": 2, "drop": 1, "may": 1, "law": 1, "missed": 1, "forget": 0, "undo": 0, "redo": 0, "lots": 0, "rank": 0,
    "only": 0, "quarrels": 0, "idle": 0, "text": 0,
}


def form_of(line):
    """The pair of the first word of a line, which is a text, and of what it tells; None if it has none of the forms."""
    first = [word for word, _, _ in words_of(line)[:1]]
    if first == ["clause"] or first == ["program"]:
        return first[0], line
    head, blank, rest = line.partition(" ")
    if head == "budget":
        return (head, rest) if blank else None
    if head == "keep":
        name, blank, text = rest.partition(" ")
        return (head, (name, text)) if blank and is_name(name) else None
    words = line.split(" ")
    return (head, words[1:]) if has_form(head, words[1:]) else None


def has_form(head, rest):
    """Whether these words can stand behind the first word of a line."""
    if head == "futures" or head == "decided":
        return len(rest) == 1 and number_told(rest[0]) is not None
    if head != "first" and (head not in NAMES_BEHIND or len(rest) != NAMES_BEHIND[head]):
        return False
    return all(is_name(name) for name in rest)


def listed(thing):
    """A name, or a list as it is told: in parentheses, with one blank between two things."""
    if isinstance(thing, str):
        return thing
    return "(" + " ".join([listed(part) for part in thing]) + ")"


def need_call(document, name):
    """BadCall for a name that is no call's."""
    if name not in answers_by_call(document[1]):
        raise BadCall("no call's name")


def placed(things, names, thing, name, most):
    """The things with one more, in the place of the one that has this name, or behind all others."""
    if name in names:
        return tuple(thing if known == name else other for known, other in zip(names, things))
    if len(things) == most:
        raise TooMany("too many")
    return things + (thing,)


def saw(page, rest):
    """One more pair stands behind the history."""
    document, history, laws = page
    call, answer = rest
    need_call(document, call)
    if answer not in answers_by_call(document[1])[call]:
        raise BadAnswer("no answer of that call")
    new = (document, history + ((call, answer),), laws)
    return new, lots_told(new, ())


def forget(page, rest):
    """The history is empty."""
    return (page[0], (), page[2]), "ok"


def put(page, rest):
    """A clause takes the place of the one of its name, or stands behind all others."""
    document = page[0]
    clause = read_clause(document[1], rest)
    return with_clauses_of(page, placed(document[2], clause_names(document), clause, clause[1], MOST_CLAUSES))


def drop(page, rest):
    """The clause of a name goes."""
    at = clause_index(page[0], rest[0])
    clauses = page[0][2]
    return with_clauses_of(page, clauses[:at] + clauses[at + 1:])


def clause_index(document, name):
    """The index of the clause of this name."""
    names = clause_names(document)
    if name not in names:
        raise BadName("no name of a clause")
    return names.index(name)


def with_clauses_of(page, clauses):
    """The page with these clauses, and how its document stands to the one ahead of it."""
    old = page[0]
    new = ("document", old[1], clauses)
    words = {(True, True): "same", (True, False): "narrower", (False, True): "wider", (False, False): "apart"}
    return (new, page[1], page[2]), words[(is_narrower(new, old), is_narrower(old, new))]


def keep(page, rest):
    """A law is kept by a name, in the place of the one of this name or behind all others."""
    document, history, laws = page
    name, text = rest
    rule = read(text)
    if rule[0] != "law":
        raise BadLaw("the text tells no law")
    need_one_house(document, rule)
    names = [known for known, _ in laws]
    new = (document, history, placed(laws, names, (name, rule), name, MOST_LAWS))
    return new, law_told(new, (name,))


def lots_told(page, rest):
    """The lots of the clauses behind the history."""
    return listed(lots_behind(page[0], page[1]))


def rank_told(page, rest):
    """The rank of the stand behind the history, or that it is safe."""
    rank = rank_of(page[0], lots_behind(page[0], page[1]))
    return "safe" if rank is None else str(rank)


def may_told(page, rest):
    """The answers of a call behind which the stand is safe."""
    document = page[0]
    call = rest[0]
    need_call(document, call)
    stand = lots_behind(document, page[1])
    found = []
    for answer in answers_by_call(document[1])[call]:
        if rank_of(document, stand_behind(document, stand, call, answer)) is None:
            found.append(answer)
    return listed(found)


def first_told(page, rest):
    """The answers that made gives to a word."""
    return listed(answers(made(page[0]), tuple(rest)))


def only_told(page, rest):
    """Whether there is one right program alone, otherwise the first word that two of them answer otherwise."""
    found = only(page[0])
    return "yes" if found[0] == "only" else listed(found[1])


def futures_told(page, rest):
    """How many futures of so many calls there are."""
    return str(futures(page[0], int(rest[0])))


def quarrels_told(page, rest):
    """The quarrels."""
    return listed(quarrels(page[0]))


def idle_told(page, rest):
    """The names of the idle clauses."""
    names = clause_names(page[0])
    return listed([names[at] for at in idle(page[0])])


def law_told(page, rest):
    """The first word of the verdict of the law of a name."""
    for name, rule in page[2]:
        if name == rest[0]:
            return law_verdict(page[0], rule)[0]
    raise BadName("no name of a law")


def missed_told(page, rest):
    """The first word on which a wrong program that all laws let by can break the clause of a name."""
    at = clause_index(page[0], rest[0])
    found = missed(page[0], at, [rule for _, rule in page[2]])
    return "none" if found is None else listed(found[1])


def decided_told(page, rest):
    """Whether the document is decided within so many calls."""
    return "yes" if is_decided(page[0], int(rest[0])) else "no"


def program_told(page, rest):
    """Whether a program is right, otherwise the word on which it breaks, and the clause."""
    document = page[0]
    found = verdict(document, read(rest))
    if found[0] == "right":
        return "right"
    return f"breaks {listed(found[1])} {clause_names(document)[found[2]]}"


def budget_told(page, rest):
    """How much must be paid for a program."""
    found = budget(page[0], read(rest))
    return "none" if found is None else str(found)


def text_told(page, rest):
    """The text of the document."""
    return text_of(page[0])


# Each deed tells the page to which it leads, and its answer.
DEEDS = {"saw": saw, "forget": forget, "clause": put, "drop": drop, "keep": keep}

QUESTIONS = {
    "lots": lots_told, "rank": rank_told, "may": may_told, "first": first_told, "only": only_told,
    "futures": futures_told, "quarrels": quarrels_told, "idle": idle_told, "law": law_told, "missed": missed_told,
    "decided": decided_told, "program": program_told, "budget": budget_told, "text": text_told,
}
