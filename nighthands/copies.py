"""The program's interface: a list of calls in, a list of answers out."""

from nighthands.calls import answer
from nighthands.forms import Reader
from nighthands.line import Line


def answers(calls):
    line = Line()
    reader = Reader(calls)
    given = []
    while not reader.at_end():
        call = reader.take_number()
        numbers = answer(line, call, reader.take_told(call))
        given.append(len(numbers))
        given.extend(numbers)
    return given
