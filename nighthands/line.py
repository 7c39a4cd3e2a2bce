"""The hands with their doings and copies, and the line between them."""

from nighthands.doings import SIGN, Doing, with_itself


# A waiting doing is (hand, number); a message is (the hand to which it goes, hand, number).
class Line:
    def __init__(self):
        self.begin(0, 0)

    def begin(self, hands, length):
        self.hands = hands
        self.length = length
        self.doings = [[] for hand in range(hands)]
        self.known = [[0] * hands for hand in range(hands)]
        self.waiting = [[] for hand in range(hands)]
        self.bag = []


def doings_in_all(line):
    return sum([len(own) for own in line.doings])


# A hand's times grow, so the last doing that is borne of a hand has the greatest time of them.
def time_behind(line, bears):
    times = [line.doings[hand][many - 1].time for hand, many in enumerate(bears) if many > 0]
    return 1 + max(times, default=0)


def do(line, hand, kind, told):
    bears = tuple(line.known[hand])
    number = bears[hand]
    line.doings[hand].append(Doing(hand, number, kind, told, bears, time_behind(line, bears)))
    line.known[hand][hand] = number + 1
    return number


def is_within(part, knowledge):
    return all([few <= many for few, many in zip(part, knowledge)])


def knows(line, hand, name):
    return name[1] < line.known[hand][name[0]]


def known_doing(line, hand, name):
    if not knows(line, hand, name):
        return None
    return line.doings[name[0]][name[1]]


def known_signs(line, hand):
    signs = []
    for maker, many in enumerate(line.known[hand]):
        signs.extend([doing for doing in line.doings[maker][:many] if doing.kind == SIGN])
    return signs


def surely_known(line, hand, knowledge):
    many = knowledge[hand]
    if many == 0:
        return [0] * line.hands
    return with_itself(line.doings[hand][many - 1])


# The copy's own hand is left out: it may have heard more since its last doing.
def all_surely_know(line, hand):
    knowledge = line.known[hand]
    sure = [surely_known(line, other, knowledge) for other in range(line.hands) if other != hand]
    return [min([row[maker] for row in sure + [knowledge]]) for maker in range(line.hands)]


# A copy only comes to know more, so the last of a hand's doings bears all that those before it bear.
def is_closed(line, knowledge):
    return all([is_within(surely_known(line, hand, knowledge), knowledge) for hand in range(line.hands)])


def lacks(line, hand, other):
    knowledge = line.known[hand]
    sure = surely_known(line, other, knowledge)
    names = []
    for maker, many in enumerate(knowledge):
        names.extend([(maker, number) for number in range(sure[maker], many)])
    return names


def is_ready(line, hand, name):
    known = line.known[hand]
    doing = line.doings[name[0]][name[1]]
    if doing.number != known[doing.hand]:
        return False
    return is_within(doing.bears, known)


def first_ready(line, hand):
    for place, name in enumerate(line.waiting[hand]):
        if is_ready(line, hand, name):
            return place
    return None


# What becomes known may free one that came to wait before it, so each search begins at the first again.
def take_ready(line, hand):
    taken = 0
    place = first_ready(line, hand)
    while place is not None:
        name = line.waiting[hand].pop(place)
        line.known[hand][name[0]] += 1
        taken += 1
        place = first_ready(line, hand)
    return taken


def bring(line, hand, name):
    if knows(line, hand, name) or name in line.waiting[hand]:
        return 0
    line.waiting[hand].append(name)
    return take_ready(line, hand)
