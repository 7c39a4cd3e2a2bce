"""Calls 12 to 23, which only ask: what each one answers."""

from nighthands.doings import SIGN, taken_back, with_itself
from nighthands.line import all_surely_know, doings_in_all, is_closed, is_within, known_doing, known_signs
from nighthands.refusals import MISSING, NOT_ALLOWED
from nighthands.views import find_mark, overlapping_pairs, stretch_and_label, view


def counted(rows):
    numbers = [len(rows)]
    for row in rows:
        numbers.extend(row)
    return numbers


def view_of(line, hand):
    return view(line.doings, line.known[hand])


def show_view(line, told):
    return [0] + counted(view_of(line, told[0]))


def tell_known(line, told):
    hand = told[0]
    return [0] + line.known[hand] + counted(line.waiting[hand])


def tell_stable(line, told):
    return [0] + all_surely_know(line, told[0])


def tell_signs(line, told):
    signs = known_signs(line, told[0])
    return [0] + counted([[sign.hand, sign.number] + with_itself(sign) for sign in signs])


def show_signed(line, told):
    doing = known_doing(line, told[0], told[1:])
    if doing is None or doing.kind != SIGN:
        return [MISSING]
    return [0] + counted(view(line.doings, with_itself(doing)))


def show_at(line, told):
    knowledge = told[1]
    if not is_within(knowledge, line.known[told[0]]):
        return [MISSING]
    if not is_closed(line, knowledge):
        return [NOT_ALLOWED]
    return [0] + counted(view(line.doings, knowledge))


def tell_mark(line, told):
    mark = find_mark(line.doings, line.known[told[0]], told[1:])
    if mark is None:
        return [MISSING]
    givers = [mark.stretcher.hand, mark.stretcher.number, mark.labeller.hand, mark.labeller.number]
    return [0] + list(stretch_and_label(mark)) + givers


def tell_overlaps(line, told):
    return [0] + counted(overlapping_pairs(view_of(line, told[0])))


def tell_doing(line, told):
    doing = known_doing(line, told[0], told[1:])
    if doing is None:
        return [MISSING]
    many = line.known[told[0]][doing.hand]
    taken = taken_back(line.doings[doing.hand], many)[doing.number]
    return [0, doing.time, 1 if taken else 0] + list(doing.bears) + [doing.kind] + list(doing.told)


def without(shown, others):
    return [mark for mark in shown if mark not in others]


def tell_differ(line, told):
    same = line.known[told[0]] == line.known[told[1]]
    one = view_of(line, told[0])
    other = view_of(line, told[1])
    return [0, 1 if same else 0] + counted(without(one, other)) + counted(without(other, one))


def tell_bag(line, told):
    return [0] + counted(line.bag)


def tell_counts(line, told):
    return [0, line.hands, line.length, doings_in_all(line), len(line.bag)]


ASKS = {
    12: show_view,
    13: tell_known,
    14: tell_stable,
    15: tell_signs,
    16: show_signed,
    17: show_at,
    18: tell_mark,
    19: tell_overlaps,
    20: tell_doing,
    21: tell_differ,
    22: tell_bag,
    23: tell_counts,
}


def ask(line, call, told):
    chosen = ASKS[call]
    return chosen(line, told)
