"""The view of some knowledge. A mark in it is (m, k, a, b, x)."""

from nighthands.doings import DROP, LABEL, MOVE, PUT, counting, lateness


def view_order(mark):
    return (mark[2], mark[3], mark[4], mark[0], mark[1])


def view(doings, knowledge):
    stretches = {}
    labels = {}
    put = []
    dropped = []
    # The latest one is to hold: going from early to late, each overwrites what was told before it.
    for doing in sorted(counting(doings, knowledge), key=lateness):
        if doing.kind == PUT:
            name = (doing.hand, doing.number)
            put.append(name)
            stretches[name] = doing.told[:2]
            labels[name] = doing.told[2]
        elif doing.kind == MOVE:
            stretches[doing.told[:2]] = doing.told[2:]
        elif doing.kind == LABEL:
            labels[doing.told[:2]] = doing.told[2]
        elif doing.kind == DROP:
            dropped.append(doing.told)
    marks = [name + stretches[name] + (labels[name],) for name in put if name not in dropped]
    return sorted(marks, key=view_order)


def has_mark(doings, knowledge, name):
    return any([mark[:2] == name for mark in view(doings, knowledge)])
