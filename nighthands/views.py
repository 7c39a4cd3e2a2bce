"""The view of some knowledge. A mark in it is (m, k, a, b, x)."""

from nighthands.doings import DROP, LABEL, MOVE, PUT, counting, lateness


# Of a mark its name, and the doings that gave its stretch and its label.
class Mark:
    def __init__(self, name, stretcher, labeller):
        self.name = name
        self.stretcher = stretcher
        self.labeller = labeller


def find_marks(doings, knowledge):
    stretchers = {}
    labellers = {}
    put = []
    dropped = {}
    # The latest one is to hold: going from early to late, each overwrites the one before it.
    for doing in sorted(counting(doings, knowledge), key=lateness):
        if doing.kind == PUT:
            name = (doing.hand, doing.number)
            put.append(name)
            stretchers[name] = doing
            labellers[name] = doing
        elif doing.kind == MOVE:
            stretchers[doing.told[:2]] = doing
        elif doing.kind == LABEL:
            labellers[doing.told[:2]] = doing
        elif doing.kind == DROP:
            dropped[doing.told] = True
    return [Mark(name, stretchers[name], labellers[name]) for name in put if name not in dropped]


def find_mark(doings, knowledge, name):
    for mark in find_marks(doings, knowledge):
        if mark.name == name:
            return mark
    return None


def stretch_and_label(mark):
    told = mark.stretcher.told
    stretch = told[:2] if mark.stretcher.kind == PUT else told[2:]
    # A put and a label both tell the label at this place.
    return stretch + (mark.labeller.told[2],)


def view_order(shown):
    return (shown[2], shown[3], shown[4], shown[0], shown[1])


def view(doings, knowledge):
    return sorted([mark.name + stretch_and_label(mark) for mark in find_marks(doings, knowledge)], key=view_order)


def overlap(one, other):
    return one[4] == other[4] and max(one[2], other[2]) < min(one[3], other[3])


def overlapping_pairs(shown):
    pairs = []
    for place, one in enumerate(shown):
        pairs.extend([one[:2] + other[:2] for other in shown[place + 1:] if overlap(one, other)])
    return pairs
