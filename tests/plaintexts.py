"""Texts by the words of [11] to [14], read downwards: what may stand is gathered until a word is taken."""

from tests.plain import name_form


def words(text):
    """The triples of [11], character by character."""
    found = []
    line, column, joined = 1, 1, False
    for sign in text:
        plain = sign in "_0123456789" or "a" <= sign.lower() <= "z"
        if sign == "\n":
            line, column, joined = line + 1, 1, False
            continue
        if plain and joined:
            found[-1][0] += sign
        elif sign != " ":
            found.append([sign, line, column])
        joined = plain
        column += 1
    return [tuple(triple) for triple in found]


class Stop(Exception):
    """No further word, or one that cannot stand: its index, and what may stand there."""


class Down:
    def __init__(self, told):
        self.told = told
        self.at = 0
        self.may = set()

    def fits(self, option):
        if self.at == len(self.told):
            return False
        word = self.told[self.at]
        if isinstance(option, str):
            return word == option
        if option[0] == "NAME":
            return name_form(word) and word not in option[1]
        return word.isdigit() and str(int(word)) == word and option[0] <= int(word) <= option[1]

    def maybe(self, *options):
        """Take one of these if it is next."""
        for option in options:
            if isinstance(option, str):
                self.may.add(option)
            elif option[0] == "NAME":
                self.may.add("NAME")
            elif option[0] <= option[1]:
                self.may.add(f"{option[0]}..{option[1]}")
        if any(self.fits(option) for option in options):
            self.may = set()
            self.at += 1
            return self.told[self.at - 1]
        return None

    def must(self, *options):
        word = self.maybe(*options)
        if word is None:
            raise Stop(self.at, tuple(sorted(self.may)), False)
        return word

    def end(self):
        self.may.add("END")
        raise Stop(self.at, tuple(sorted(self.may)), self.at == len(self.told))

    # What [12] tells, one for each.

    def names(self, most):
        found = [self.must(("NAME", ()))]
        while len(found) < most and self.maybe(","):
            found.append(self.must(("NAME", found)))
        return found

    def calls(self, most, taken=()):
        found = {}
        while True:
            if not found:
                self.must("call")
            elif len(found) == most or not self.maybe("call"):
                return found
            name = self.must(("NAME", list(taken) + list(found)))
            self.must(":")
            found[name] = self.names(5)

    def clause(self, calls, taken):
        name = self.must(("NAME", taken))
        self.must(":")
        places = self.names(40)
        keys = [(place, call) for place in places for call in calls]
        while keys:
            place = self.maybe(*dict.fromkeys(place for place, _ in keys))
            if place is None:
                break
            call = self.must(*[told for at, told in keys if at == place])
            keys = keys[keys.index((place, call)) + 1:]
            self.must(":")
            if not self.maybe("never"):
                pairs = [(answer, to) for answer in calls[call] for to in places]
                while True:
                    answer = self.must(*dict.fromkeys(told for told, _ in pairs))
                    to = self.must(*[goal for told, goal in pairs if told == answer])
                    pairs = pairs[pairs.index((answer, to)) + 1:]
                    if not pairs or not self.maybe(","):
                        break
        return name

    def clauses(self, calls, least, most):
        found = []
        while len(found) < least:
            self.must("clause")
            found.append(self.clause(calls, found))
        while len(found) < most and self.maybe("clause"):
            found.append(self.clause(calls, found))
        self.end()

    def numbers(self, many, least):
        told = []
        for at in range(many):
            if at:
                self.must(",")
            told.append(int(self.must((least, 399))))
        return told

    def numbered(self, word, tell):
        """States or nodes, each told by a function that gives the numbers it points to."""
        many, points = 0, [0]
        while True:
            if many == 0 or max(points) >= many:
                self.must(word)
            elif many == 400 or not self.maybe(word):
                self.end()
            self.must((many, many))
            points += tell(many)
            many += 1

    def state(self, calls):
        points = []
        for call in calls:
            self.must(call)
            self.must(":")
            self.must(*calls[call])
            points += self.numbers(1, 0)
        return points

    def deed(self, calls, objects, number):
        least = number + 1 if objects > 1 else 0
        deeds = ["true", "false"]
        if least < 400:
            deeds += ["ask", "draw"] + (["copy"] if objects > 1 else [])
        word = self.must(*deeds)
        if word == "ask":
            self.must((0, objects - 1))
            call = self.must(*calls)
            self.must(":")
            return self.numbers(len(calls[call]), least)
        if word == "copy":
            one = int(self.must((0, objects - 1)))
            self.must((0, one - 1), (one + 1, objects - 1))
            return self.numbers(1, least)
        if word == "draw":
            points = self.numbers(1, least)
            while len(points) < 6 and self.maybe(","):
                points += self.numbers(1, least)
            return points
        return []

    def step(self, calls, inner, number):
        word = self.must("wait", "give", *(["ask"] if number < 399 else []))
        if word == "wait":
            return self.numbers(len(calls), 0)
        if word == "ask":
            call = self.must(*inner)
            self.must(":")
            return self.numbers(len(inner[call]), number + 1)
        self.must(*{answer for told in calls.values() for answer in told})
        return self.numbers(1, 0)

    def text(self):
        word = self.must("house", "document", "program", "law", "outer")
        objects = int(self.must((1, 3))) if word == "law" else 0
        calls = self.calls(4 if word == "outer" else 5)
        if word == "house":
            self.end()
        if word == "document":
            self.clauses(calls, 0, 8)
        if word == "program":
            self.numbered("state", lambda number: self.state(calls))
        if word == "law":
            self.numbered("node", lambda number: self.deed(calls, objects, number))
        self.must("inner")
        inner = self.calls(5 - len(calls), calls)
        self.numbered("node", lambda number: self.step(calls, inner, number))


def look(told):
    """The index of the first word that cannot stand, or how many there are; wanted there; whether all is whole."""
    try:
        Down(told).text()
    except Stop as stop:
        return stop.args


def look_clause(house, told):
    """As look, of a clause alone."""
    try:
        Down(told).clauses({call[1]: list(call[2]) for call in house[1]}, 1, 1)
    except Stop as stop:
        return stop.args
