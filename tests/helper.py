"""What the tests share: the calls by their names, and ways to ask the program."""

from nighthands.calls import answer
from nighthands.copies import answers
from nighthands.line import Line

FAR = 1000000000000000000


def hands(n, length):
    return (0, n, length)


def put(c, a, b, x):
    return (1, c, a, b, x)


def move(c, m, k, a, b):
    return (2, c, m, k, a, b)


def label(c, m, k, x):
    return (3, c, m, k, x)


def drop(c, m, k):
    return (4, c, m, k)


def back(c, k):
    return (5, c, k)


def sign(c):
    return (6, c)


def hello(c):
    return (7, c)


def send(c, g):
    return (8, c, g)


def deliver(i):
    return (9, i)


def lose(i):
    return (10, i)


def double(i):
    return (11, i)


def view(c):
    return (12, c)


def known(c):
    return (13, c)


def stable(c):
    return (14, c)


def signs(c):
    return (15, c)


def signed(c, m, k):
    return (16, c, m, k)


def at(c, *knowledge):
    return (17, c, knowledge)


def mark(c, m, k):
    return (18, c, m, k)


def overlaps(c):
    return (19, c)


def doing(c, m, k):
    return (20, c, m, k)


def differ(c, g):
    return (21, c, g)


def bag():
    return (22,)


def counts():
    return (23,)


def flat(calls):
    """One list of whole numbers; a tuple within a call is a row, handed in with its size ahead."""
    numbers = []
    for call in calls:
        for told in call:
            if isinstance(told, tuple):
                numbers.append(len(told))
                numbers.extend(told)
            else:
                numbers.append(told)
    return numbers


def split(given):
    """The answers of each call; fails if the counts don't come out."""
    found = []
    place = 0
    while place < len(given):
        many = given[place]
        found.append(given[place + 1:place + 1 + many])
        if len(found[-1]) != many:
            raise AssertionError("an answer is shorter than its count")
        place += 1 + many
    return found


def ask(calls):
    return split(answers(flat(calls)))


def last(calls):
    """The answer of the last call, where none of those before it may be refused."""
    found = ask(calls)
    if any(one[0] < 0 for one in found[:-1]):
        raise AssertionError(f"refused on the way: {found}")
    return found[-1]


def tell(calls, c, g):
    """The calls, and then c sends to g and all that it sends arrives; the bag must be empty before."""
    many = last(calls + [send(c, g)])[1]
    return calls + [send(c, g)] + [deliver(0)] * many


def marks(given):
    """The marks of an answer that is a view."""
    if given[0] != 0 or len(given) != 2 + 5 * given[1]:
        raise AssertionError(f"not a view: {given}")
    return [tuple(given[place:place + 5]) for place in range(2, len(given), 5)]


def shown(calls, asking):
    """The marks of the view that the last call asks for."""
    return marks(last(calls + [asking]))


def run(calls):
    """The line as it is behind the calls."""
    line = Line()
    for call in calls:
        answer(line, call[0], call[1:])
    return line


def state(line):
    """All that a line holds, as plain values."""
    doings = [[(one.hand, one.number, one.kind, one.told, one.bears, one.time) for one in own] for own in line.doings]
    known = [list(knowledge) for knowledge in line.known]
    waiting = [list(names) for names in line.waiting]
    return (line.hands, line.length, doings, known, waiting, list(line.bag))


def refused(case, before, wrong, number):
    """Each of the wrong calls behind those before answers the number alone and leaves all as it was."""
    plain = state(run(before))
    for call in wrong:
        with case.subTest(call=call):
            case.assertEqual(ask(before + [call])[-1], [number])
            case.assertEqual(state(run(before + [call])), plain)
