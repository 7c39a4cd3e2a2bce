"""What a call answers: the refusals that all calls have in common, then its own answer."""

from nighthands.acts import act
from nighthands.asks import ask
from nighthands.forms import all_fit
from nighthands.refusals import NO_HANDS, OUT_OF_RANGE

HANDS = 0
LAST_ACT = 11


def answer(line, call, told):
    if call != HANDS and line.hands == 0:
        return [NO_HANDS]
    if not all_fit(line, call, told):
        return [OUT_OF_RANGE]
    if call <= LAST_ACT:
        return act(line, call, told)
    return ask(line, call, told)
