"""Calls 0 to 11, which change the line: what each one does and answers."""

from nighthands.doings import BACK, DROP, HELLO, LABEL, MOVE, PUT, SIGN, taken_back
from nighthands.line import bring, do, doings_in_all, lacks
from nighthands.refusals import FULL, MISSING, NOT_ALLOWED, TAKEN_BACK
from nighthands.views import find_mark

MOST_DOINGS = 120
MOST_MESSAGES = 60


def begin_hands(line, told):
    line.begin(told[0], told[1])
    return [0]


# Every call of doings ends here: its other refusals are told ahead of this one.
def do_if_room(line, hand, kind, told):
    if doings_in_all(line) >= MOST_DOINGS:
        return [FULL]
    return [0, do(line, hand, kind, told)]


def do_to_mark(line, kind, told):
    hand = told[0]
    if find_mark(line.doings, line.known[hand], told[1:3]) is None:
        return [MISSING]
    return do_if_room(line, hand, kind, told[1:])


def put_mark(line, told):
    return do_if_room(line, told[0], PUT, told[1:])


def move_mark(line, told):
    return do_to_mark(line, MOVE, told)


def label_mark(line, told):
    return do_to_mark(line, LABEL, told)


def drop_mark(line, told):
    return do_to_mark(line, DROP, told)


def take_back(line, told):
    hand = told[0]
    number = told[1]
    own = line.doings[hand]
    if number >= len(own):
        return [MISSING]
    if own[number].kind in (SIGN, HELLO):
        return [NOT_ALLOWED]
    if taken_back(own, len(own))[number]:
        return [TAKEN_BACK]
    return do_if_room(line, hand, BACK, (number,))


def sign(line, told):
    return do_if_room(line, told[0], SIGN, ())


def say_hello(line, told):
    return do_if_room(line, told[0], HELLO, ())


def has_room(line, more):
    return len(line.bag) + more <= MOST_MESSAGES


def send(line, told):
    other = told[1]
    names = lacks(line, told[0], other)
    if not has_room(line, len(names)):
        return [FULL]
    line.bag.extend([(other,) + name for name in names])
    return [0, len(names)]


def deliver(line, told):
    message = line.bag.pop(told[0])
    hand = message[0]
    more = bring(line, hand, message[1:])
    return [0, more, len(line.waiting[hand])]


def lose(line, told):
    line.bag.pop(told[0])
    return [0]


def double(line, told):
    if not has_room(line, 1):
        return [FULL]
    line.bag.append(line.bag[told[0]])
    return [0]


ACTS = {
    0: begin_hands,
    1: put_mark,
    2: move_mark,
    3: label_mark,
    4: drop_mark,
    5: take_back,
    6: sign,
    7: say_hello,
    8: send,
    9: deliver,
    10: lose,
    11: double,
}


def act(line, call, told):
    chosen = ACTS[call]
    return chosen(line, told)
