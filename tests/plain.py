"""Plain walks by the words of the document, slow and without anything of the package."""

from functools import lru_cache
from itertools import product

KEPT = ("answer ask call clause copy document draw false give house inner law never node outer program "
        "state true wait").split()


def number(x):
    return isinstance(x, int) and x is not True and x is not False


def calls(house):
    return [call[1] for call in house[1]]


def answers_of(house, name):
    return [call[2] for call in house[1] if call[1] == name][0]


def pairs(house):
    return [(call[1], answer) for call in house[1] for answer in call[2]]


def words(house, most):
    """All words of at most so many calls, shorter ones first, then call by call."""
    return [word for many in range(most + 1) for word in product(calls(house), repeat=many)]


def histories(house, most):
    return [told for many in range(most + 1) for told in product(pairs(house), repeat=many)]


# Forms, each by its own words.

def name_form(x):
    return isinstance(x, str) and 1 <= len(x) <= 8 and set(x) <= set("abcdefghijklmnopqrstuvwxyz") and x not in KEPT


def names_form(x, most):
    return isinstance(x, tuple) and 1 <= len(x) <= most and all(map(name_form, x)) and len(set(x)) == len(x)


def tagged(x, word, many):
    return isinstance(x, tuple) and len(x) == many and isinstance(x[0], str) and x[0] == word


def house_form(x):
    if not tagged(x, "house", 2) or not isinstance(x[1], tuple):
        return False
    if not all(tagged(c, "call", 3) and name_form(c[1]) and names_form(c[2], 5) for c in x[1]):
        return False
    return names_form(tuple(c[1] for c in x[1]), 5)


def ascending(keys):
    return sorted(set(keys)) == keys


def clause_form(house, x):
    if not tagged(x, "clause", 4) or not name_form(x[1]) or not names_form(x[2], 40) or not isinstance(x[3], tuple):
        return False
    keys = []
    for row in x[3]:
        if not isinstance(row, tuple) or len(row) != 3 or not all(isinstance(part, str) for part in row[:2]):
            return False
        if row[0] not in x[2] or row[1] not in calls(house) or not isinstance(row[2], tuple):
            return False
        here = []
        for let in row[2]:
            if not isinstance(let, tuple) or len(let) != 2 or not all(isinstance(part, str) for part in let):
                return False
            if let[0] not in answers_of(house, row[1]) or let[1] not in x[2]:
                return False
            here.append((answers_of(house, row[1]).index(let[0]), x[2].index(let[1])))
        if not ascending(here):
            return False
        keys.append((x[2].index(row[0]), calls(house).index(row[1])))
    return ascending(keys)


def document_form(x):
    if not tagged(x, "document", 3) or not house_form(x[1]) or not isinstance(x[2], tuple):
        return False
    return all(clause_form(x[1], c) for c in x[2]) and len({c[1] for c in x[2]}) == len(x[2])


def entry_form(house, call, many, x):
    if not isinstance(x, tuple) or len(x) != 2 or not isinstance(x[0], str) or not number(x[1]):
        return False
    return x[0] in answers_of(house, call) and 0 <= x[1] < many


def program_form(x):
    if not tagged(x, "program", 3) or not house_form(x[1]) or not isinstance(x[2], tuple) or not x[2]:
        return False
    for row in x[2]:
        if not isinstance(row, tuple) or len(row) != len(x[1][1]):
            return False
        if not all(entry_form(x[1], call, len(x[2]), pair) for call, pair in zip(calls(x[1]), row)):
            return False
    return True


def nexts_form(x, many, least, nodes):
    return isinstance(x, tuple) and len(x) in many and all(number(n) and least <= n < nodes for n in x)


def law_form(x):
    if not tagged(x, "law", 4) or not house_form(x[1]) or not number(x[2]) or x[2] not in (1, 2, 3):
        return False
    if not isinstance(x[3], tuple) or not x[3]:
        return False
    for at, node in enumerate(x[3]):
        least = at + 1 if x[2] > 1 else 0
        many = len(x[3])
        if tagged(node, "true", 1) or tagged(node, "false", 1):
            continue
        if tagged(node, "draw", 2):
            if not nexts_form(node[1], range(1, 7), least, many):
                return False
        elif tagged(node, "copy", 4):
            if not nexts_form(node[1:3], (2,), 0, x[2]) or node[1] == node[2]:
                return False
            if not nexts_form(node[3:], (1,), least, many):
                return False
        elif tagged(node, "ask", 4):
            if not nexts_form(node[1:2], (1,), 0, x[2]) or not isinstance(node[2], str):
                return False
            if node[2] not in calls(x[1]):
                return False
            if not nexts_form(node[3], (len(answers_of(x[1], node[2])),), least, many):
                return False
        else:
            return False
    return True


def meaning_form(x):
    if not tagged(x, "meaning", 3) or not house_form(x[1]) or not isinstance(x[2], tuple):
        return False
    house, rows = x[1], x[2]
    for row in rows:
        if not isinstance(row, tuple) or len(row) != len(house[1]):
            return False
        for call, told in zip(calls(house), row):
            if not isinstance(told, tuple) or not told:
                return False
            if not all(entry_form(house, call, len(rows), pair) for pair in told):
                return False
            if not ascending([answers_of(house, call).index(pair[0]) for pair in told]):
                return False
    met = [0] if rows else []
    for at in met:
        for told in rows[at]:
            for _, to in told:
                if to not in met:
                    met.append(to)
    if met != list(range(len(rows))):
        return False
    unlike = {(a, b) for a in met for b in met if [[p[0] for p in t] for t in rows[a]] != [[p[0] for p in t] for t in rows[b]]}
    grown = True
    while grown:
        grown = False
        for a, b in product(met, met):
            if (a, b) not in unlike:
                for one, two in zip(rows[a], rows[b]):
                    if any((p[1], q[1]) in unlike for p, q in zip(one, two)):
                        unlike.add((a, b))
                        grown = True
    return all((a, b) in unlike for a in met for b in met if a != b)


# Documents.

def lot_after(clause, lot, call, answer):
    """The lot of one clause behind one more pair."""
    found = set()
    rows = {(row[0], row[1]): row[2] for row in clause[3]}
    for place in lot:
        if (place, call) not in rows:
            found.add(place)
        else:
            found |= {to for told, to in rows[(place, call)] if told == answer}
    return tuple(place for place in clause[2] if place in found)


def first_stand(document):
    return tuple((clause[2][0],) for clause in document[2])


def stand_after(document, stand, call, answer):
    return tuple(lot_after(clause, lot, call, answer) for clause, lot in zip(document[2], stand))


def way(document, history):
    """The stands on the way of a history."""
    found = [first_stand(document)]
    for call, answer in history:
        found.append(stand_after(document, found[-1], call, answer))
    return found


def let(document, history):
    return all(() not in stand for stand in way(document, history))


def coming(document, first=None):
    """The unbroken stands that come, as met, each with its first history."""
    first = first_stand(document) if first is None else first
    found = {first: ()}
    queue = [first]
    for stand in queue:
        for pair in pairs(document[1]):
            there = stand_after(document, stand, *pair)
            if () not in there and there not in found:
                found[there] = found[stand] + (pair,)
                queue.append(there)
    return found


@lru_cache(maxsize=20000)
def ranks(document, first=None):
    """The ranks of the unbroken stands that come; safe ones have None."""
    first = first_stand(document) if first is None else first
    if () in first:
        return {first: 0}
    left = list(coming(document, first))
    known = {}
    rank = 1
    while True:
        new = []
        for stand in left:
            for call in calls(document[1]):
                there = [stand_after(document, stand, call, a) for a in answers_of(document[1], call)]
                if all(() in s or s in known for s in there):
                    new.append(stand)
                    break
        if not new:
            return {**known, **{stand: None for stand in left}}
        known.update({stand: rank for stand in new})
        left = [stand for stand in left if stand not in known]
        rank += 1


def sound(document):
    return ranks(document)[first_stand(document)] is None


def held(document, history):
    """Whether all stands on the way are safe."""
    known = ranks(document)
    return all(() not in stand and known[stand] is None for stand in way(document, history))


def held_answers(document, history, call):
    return [a for a in answers_of(document[1], call) if held(document, history + ((call, a),))]


# Programs.

def trace(program, word):
    """The answers to a word, and the states behind its beginnings."""
    state, told, states = 0, [], [0]
    for call in word:
        answer, state = program[2][state][calls(program[1]).index(call)]
        told.append(answer)
        states.append(state)
    return tuple(told), states


def told_history(program, word):
    return tuple(zip(word, trace(program, word)[0]))


@lru_cache(maxsize=100000)
def right(document, program):
    """Whether the program is right, by all pairs of states and stands."""
    queue = [(0, first_stand(document))]
    for state, stand in queue:
        for call, (answer, to) in zip(calls(document[1]), program[2][state]):
            there = stand_after(document, stand, call, answer)
            if () in there:
                return False
            if (to, there) not in queue:
                queue.append((to, there))
    return True


def unlike_states(program):
    """For each state the number of its part, when all that is unlike is parted again and again."""
    part = [tuple(answer for answer, _ in row) for row in program[2]]
    while True:
        finer = [(part[at], tuple(part[to] for _, to in row)) for at, row in enumerate(program[2])]
        number = {told: at for at, told in enumerate(dict.fromkeys(finer))}
        finer = [number[told] for told in finer]
        if len(set(finer)) == len(set(part)):
            return finer
        part = finer


def programs(house, most):
    """All programs of at most so many states."""
    for many in range(1, most + 1):
        entries = [[(a, to) for a in call[2] for to in range(many)] for call in house[1]]
        for rows in product(list(product(*entries)), repeat=many):
            yield ("program", house, tuple(rows))
