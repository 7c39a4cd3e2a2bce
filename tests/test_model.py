"""The program beside a slow model of the document: knowledge as plain sets of doings, each word as it stands."""

import random
import unittest

from helper import FAR, ask, run
from nighthands.views import view


class Model:
    def __init__(self):
        self.n = 0

    def new(self, n, length):
        self.n = n
        self.length = length
        self.doings = {}
        self.known = [frozenset()] * n
        self.waiting = [[] for c in range(n)]
        self.bag = []

    def taken_back(self, name, knowledge):
        return any(other[0] == name[0] and other[1] > name[1] and self.doings[other][0] == "back"
                   and self.doings[other][1] == (name[1],) and not self.taken_back(other, knowledge)
                   for other in knowledge)

    def later(self, name):
        return (self.doings[name][3], name[0])

    def view(self, knowledge):
        counting = [name for name in knowledge if not self.taken_back(name, knowledge)]
        marks = []
        for name in counting:
            of = [other for other in counting if self.doings[other][1][:2] == name
                  and self.doings[other][0] in ("move", "label", "drop")]
            kinds = [self.doings[other][0] for other in of]
            if self.doings[name][0] != "put" or "drop" in kinds:
                continue
            stretch = max([name] + [other for other in of if self.doings[other][0] == "move"], key=self.later)
            label = max([name] + [other for other in of if self.doings[other][0] == "label"], key=self.later)
            a, b = self.doings[stretch][1][:2] if stretch == name else self.doings[stretch][1][2:]
            marks.append((a, b, self.doings[label][1][2]) + name)
        return [mark[3:] + mark[:3] for mark in sorted(marks)]

    def surely(self, g, knowledge):
        own = [name for name in knowledge if name[0] == g]
        return self.doings[max(own)][2] | {max(own)} if own else frozenset()

    def wrong(self, call):
        told = dict(zip(FORMS[call[0]], call[1:]))
        most = {"n": (1, 5), "length": (1, 1000), "x": (0, 9), "k": (0, 120)}
        if call[0] != 0:
            most.update({"c": (0, self.n - 1), "g": (0, self.n - 1), "m": (0, self.n - 1), "a": (0, self.length),
                         "i": (0, len(self.bag) - 1)})
        if "b" in told:
            most["b"] = (told["a"] + 1, self.length)
        return any(not most[name][0] <= told[name] <= most[name][1] for name in told) or (
            call[0] == 8 and call[1] == call[2])

    def do(self, c, kind, told):
        if len(self.doings) == 120:
            return [-6]
        bears = self.known[c]
        number = len([name for name in self.doings if name[0] == c])
        time = 1 + max([self.doings[name][3] for name in bears], default=0)
        self.doings[(c, number)] = (kind, told, bears, time)
        self.known[c] = bears | {(c, number)}
        return [0, number]

    def back(self, c, k):
        if (c, k) not in self.doings:
            return [-4]
        if self.doings[(c, k)][0] in ("sign", "hello"):
            return [-7]
        if self.taken_back((c, k), frozenset(self.doings)):
            return [-5]
        return self.do(c, "back", (k,))

    def send(self, c, g):
        lacking = sorted(self.known[c] - self.surely(g, self.known[c]))
        if len(self.bag) + len(lacking) > 60:
            return [-6]
        self.bag += [(g, name) for name in lacking]
        return [0, len(lacking)]

    def deliver(self, i):
        g, name = self.bag.pop(i)
        before = len(self.known[g])
        if name not in self.known[g] and name not in self.waiting[g]:
            self.waiting[g].append(name)
            ready = [name]
            while ready:
                ready = [one for one in self.waiting[g] if self.doings[one][2] <= self.known[g]]
                for one in ready[:1]:
                    self.known[g] |= {one}
                    self.waiting[g].remove(one)
        return [0, len(self.known[g]) - before, len(self.waiting[g])]

    def answer(self, call):
        number, told = call[0], call[1:]
        if number != 0 and self.n == 0:
            return [-9]
        if self.wrong(call):
            return [-1]
        if number == 0:
            self.new(*told)
            return [0]
        if number in (2, 3, 4) and told[1:3] not in [mark[:2] for mark in self.view(self.known[told[0]])]:
            return [-4]
        if number in (1, 2, 3, 4, 6, 7):
            return self.do(told[0], ("hands", "put", "move", "label", "drop", "back", "sign", "hello")[number], told[1:])
        if number in (5, 8, 9):
            return {5: self.back, 8: self.send, 9: self.deliver}[number](*told)
        if number == 11 and len(self.bag) == 60:
            return [-6]
        if number == 10:
            self.bag.pop(told[0])
        else:
            self.bag.append(self.bag[told[0]])
        return [0]


FORMS = {0: ("n", "length"), 1: ("c", "a", "b", "x"), 2: ("c", "m", "k", "a", "b"), 3: ("c", "m", "k", "x"),
         4: ("c", "m", "k"), 5: ("c", "k"), 6: ("c",), 7: ("c",), 8: ("c", "g"), 9: ("i",), 10: ("i",), 11: ("i",)}

# How often each call comes, by its number: doings of all kinds, much talk, few words and many backs, a full bag.
WEIGHTS = ((0, 9, 9, 9, 4, 9, 2, 3, 5, 30, 2, 3), (0, 5, 4, 4, 2, 4, 1, 2, 12, 60, 4, 4),
           (0, 4, 4, 4, 4, 40, 1, 1, 3, 20, 1, 1), (1, 9, 9, 9, 3, 3, 3, 9, 9, 9, 1, 9))


def some_number(dice, model, name, told):
    if dice.random() < 0.02:
        return dice.choice((-1, 0, 1, 5, 6, 9, 10, 120, 121, 1000, 1001, FAR, -FAR))
    if name in ("c", "g", "m"):
        return dice.randrange(max(model.n, 1))
    if name == "k":
        return dice.randrange(12)
    if name == "i":
        return dice.randrange(max(len(model.bag) if model.n else 0, 1))
    if name == "a":
        return dice.randrange(6)
    return {"n": 3, "length": 9, "x": dice.randrange(10), "b": told[-1] + dice.randrange(1, 4) if told else 0}[name]


def some_call(dice, model, weights):
    number = dice.choices(range(12), weights)[0]
    told = []
    marks = []
    for name in FORMS[number]:
        told.append(some_number(dice, model, name, told))
        if name == "c" and number in (2, 3, 4) and model.n and 0 <= told[0] < model.n and dice.random() < 0.9:
            marks = model.view(model.known[told[0]])
        if name == "k" and marks:
            told[1:3] = dice.choice(marks)[:2]
        if name == "g" and model.n > 1 and told[0] == told[1]:
            told[1] = (told[0] + 1) % model.n
    return (number,) + tuple(told)


def some_line(seed):
    """Calls, and what the model answers; hands come first, but for a few lines."""
    dice = random.Random(seed)
    model = Model()
    calls = []
    given = []
    weights = WEIGHTS[seed % len(WEIGHTS)]
    for place in range(300):
        call = some_call(dice, model, weights)
        if place == seed % 7 // 6:
            call = (0, dice.randrange(1, 6), dice.choice((1, 6, 9, 1000)))
        calls.append(call)
        given.append(model.answer(call))
    return calls, given, model


class BesideTheModel(unittest.TestCase):
    @classmethod
    def setUpClass(cls):
        cls.lines = [some_line(seed) for seed in range(60)]

    def test_answers(self):
        for seed, (calls, given, model) in enumerate(self.lines):
            with self.subTest(seed=seed):
                self.assertEqual(ask(calls), given)

    def test_the_lines_tell_every_refusal_and_every_call(self):
        told = {(call[0], min(one[0], 0)) for calls, given, model in self.lines for call, one in zip(calls, given)}
        for number in range(12):
            self.assertIn((number, 0), told)
            self.assertIn((number, -1), told)
        for pair in ((2, -4), (3, -4), (4, -4), (5, -4), (5, -7), (5, -5), (8, -6), (11, -6), (1, -6), (7, -6)):
            self.assertIn(pair, told)
        more = [one[1:] for calls, given, model in self.lines for call, one in zip(calls, given)
                if call[0] == 9 and one[0] == 0]
        self.assertTrue(any(known > 2 for known, waiting in more))
        self.assertTrue(any(known > 0 and waiting > 1 for known, waiting in more))

    def test_what_is_known_waits_and_shows(self):
        for seed, (calls, given, model) in enumerate(self.lines):
            with self.subTest(seed=seed):
                line = run(calls)
                for c in range(model.n):
                    known = {(m, k) for m, many in enumerate(line.known[c]) for k in range(many)}
                    self.assertEqual(known, model.known[c])
                    self.assertEqual(line.waiting[c], model.waiting[c])
                    self.assertEqual(view(line.doings, line.known[c]), model.view(model.known[c]))
                self.assertEqual([(g, (m, k)) for g, m, k in line.bag], model.bag)

    def test_what_doings_bear_their_times_and_the_views_of_it(self):
        for seed, (calls, given, model) in enumerate(self.lines):
            with self.subTest(seed=seed):
                line = run(calls)
                for one in sum(line.doings, []):
                    told = model.doings[(one.hand, one.number)]
                    bears = {(m, k) for m, many in enumerate(one.bears) for k in range(many)}
                    self.assertEqual((bears, one.time), (told[2], told[3]))
                    if one.number % 8 == 7:
                        self.assertEqual(view(line.doings, one.bears), model.view(told[2]))

    def test_refused_calls_can_be_left_out(self):
        for seed, (calls, given, model) in enumerate(self.lines):
            with self.subTest(seed=seed):
                right = [(call, one) for call, one in zip(calls, given) if one[0] == 0]
                self.assertEqual(ask([call for call, one in right]), [one for call, one in right])

    def test_calls_that_only_ask_change_nothing(self):
        asking = [(12, 0), (13, 1), (14, 0), (15, 0), (16, 0, 0, 0), (17, 0, (1, 0, 0)), (18, 0, 0, 1), (19, 0),
                  (20, 0, 0, 0), (21, 0, 1), (22,), (23,)]
        for seed, (calls, given, model) in enumerate(self.lines):
            with self.subTest(seed=seed):
                mixed = []
                for place, call in enumerate(calls[:150]):
                    mixed += [call, asking[place % len(asking)]]
                self.assertEqual(ask(mixed)[::2], given[:150])


if __name__ == "__main__":
    unittest.main()
