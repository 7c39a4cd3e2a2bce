"""What hands do: the kinds of doings, which of two is later, and which of them count."""

PUT = 0
MOVE = 1
LABEL = 2
DROP = 3
BACK = 4
SIGN = 5
HELLO = 6


# What a doing tells depends on its kind: (a, b, x) of a put, (m, k, a, b) of a move, (m, k, x) of a label,
# (m, k) of a drop, (k,) of a back, nothing of a sign or a hello.
class Doing:
    def __init__(self, hand, number, kind, told, bears, time):
        self.hand = hand
        self.number = number
        self.kind = kind
        self.told = told
        self.bears = bears
        self.time = time


# One hand's times grow with its numbers, so time and hand tell any two doings apart.
def lateness(doing):
    return (doing.time, doing.hand)


# What a doing bears, and itself: its hand surely knows that, and a signature stands for it.
def with_itself(doing):
    knowledge = list(doing.bears)
    knowledge[doing.hand] = doing.number + 1
    return knowledge


# Only a later back takes a doing back. From the last one down, a back's own fate is settled before it is asked.
def taken_back(own, many):
    taken = [False] * many
    for number in range(many - 1, -1, -1):
        doing = own[number]
        if doing.kind == BACK and not taken[number]:
            taken[doing.told[0]] = True
    return taken


def counting(doings, knowledge):
    found = []
    for hand, many in enumerate(knowledge):
        own = doings[hand]
        taken = taken_back(own, many)
        found.extend([own[number] for number in range(many) if not taken[number]])
    return found
