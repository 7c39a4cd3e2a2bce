"""How each call is handed in, and the ranges of its numbers."""

# For each call, what its numbers are, named as the document names them. "another" is a hand other than the one
# before it; "knowledge" is the one row, which comes with its size ahead.
FORMS = {
    0: ("n", "length"),
    1: ("c", "a", "b", "x"),
    2: ("c", "m", "k", "a", "b"),
    3: ("c", "m", "k", "x"),
    4: ("c", "m", "k"),
    5: ("c", "k"),
    6: ("c",),
    7: ("c",),
    8: ("c", "another"),
    9: ("i",),
    10: ("i",),
    11: ("i",),
    12: ("c",),
    13: ("c",),
    14: ("c",),
    15: ("c",),
    16: ("c", "m", "k"),
    17: ("c", "knowledge"),
    18: ("c", "m", "k"),
    19: ("c",),
    20: ("c", "m", "k"),
    21: ("c", "g"),
    22: (),
    23: (),
}

FIXED = {
    "n": (1, 5),
    "length": (1, 1000),
    "k": (0, 120),
    "x": (0, 9),
}


class Reader:
    def __init__(self, numbers):
        self.numbers = numbers
        self.place = 0

    def at_end(self):
        return self.place == len(self.numbers)

    def take_number(self):
        number = self.numbers[self.place]
        self.place += 1
        return number

    def take_row(self):
        size = self.take_number()
        start = self.place
        self.place = start + size
        return tuple(self.numbers[start:self.place])

    def take_told(self, call):
        told = []
        for kind in FORMS[call]:
            told.append(self.take_row() if kind == "knowledge" else self.take_number())
        return tuple(told)


def limits(line, kind, before):
    if kind in FIXED:
        return FIXED[kind]
    if kind == "a":
        return (0, line.length)
    if kind == "b":
        return (before + 1, line.length)
    if kind == "i":
        return (0, len(line.bag) - 1)
    return (0, line.hands - 1)


def is_knowledge(line, row):
    return len(row) == line.hands and all([0 <= many <= 120 for many in row])


def fits(line, kind, value, before):
    if kind == "knowledge":
        return is_knowledge(line, value)
    if kind == "another" and value == before:
        return False
    ends = limits(line, kind, before)
    return ends[0] <= value <= ends[1]


def all_fit(line, call, told):
    before = 0
    for kind, value in zip(FORMS[call], told):
        if not fits(line, kind, value, before):
            return False
        before = value
    return True
