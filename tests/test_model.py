"""The program beside a slow model of the document: knowledge as plain sets of doings, each word as it stands."""

import random
import unittest

from helper import FAR, ask, flat, run
from nighthands.copies import answers
from nighthands.views import view

KINDS = ("put", "move", "label", "drop", "back", "sign", "hello")


def counted(rows):
    return [len(rows)] + [number for row in rows for number in row]


class Model:
    def __init__(self):
        self.n = 0

    def new(self, n, length):
        self.n = n
        self.length = length
        self.doings = {}
        self.known = [frozenset()] * n
        self.waiting = [[] for c in range(n)]
        self.bag = []
        self.views = {}

    def taken_back(self, name, knowledge):
        return any(other[0] == name[0] and other[1] > name[1] and self.doings[other][0] == "back"
                   and self.doings[other][1] == (name[1],) and not self.taken_back(other, knowledge)
                   for other in knowledge)

    def later(self, name):
        return (self.doings[name][3], name[0])

    def marks(self, knowledge):
        """The view; of each mark also the doings that gave its stretch and its label. The same is not sought twice."""
        if knowledge not in self.views:
            self.views[knowledge] = self.find_marks(knowledge)
        return self.views[knowledge]

    def find_marks(self, knowledge):
        counting = [name for name in knowledge if not self.taken_back(name, knowledge)]
        marks = []
        for name in counting:
            of = [other for other in counting if self.doings[other][1][:2] == name
                  and self.doings[other][0] in ("move", "label", "drop")]
            kinds = [self.doings[other][0] for other in of]
            if self.doings[name][0] != "put" or "drop" in kinds:
                continue
            stretch = max([name] + [other for other in of if self.doings[other][0] == "move"], key=self.later)
            label = max([name] + [other for other in of if self.doings[other][0] == "label"], key=self.later)
            a, b = self.doings[stretch][1][:2] if stretch == name else self.doings[stretch][1][2:]
            marks.append((a, b, self.doings[label][1][2]) + name + (stretch, label))
        return [one[3:5] + one[:3] + one[5:] for one in sorted(marks)]

    def view(self, knowledge):
        return [one[:5] for one in self.marks(knowledge)]

    def surely(self, g, knowledge):
        own = [name for name in knowledge if name[0] == g]
        return self.with_itself(max(own)) if own else frozenset()

    def with_itself(self, name):
        return self.doings[name][2] | {name}

    def numbers(self, knowledge):
        return [len([name for name in knowledge if name[0] == hand]) for hand in range(self.n)]

    def stable(self, c):
        sure = self.known[c]
        for g in range(self.n):
            if g != c:
                sure = sure & self.surely(g, self.known[c])
        return self.numbers(sure)

    def signs(self, c):
        names = sorted(name for name in self.known[c] if self.doings[name][0] == "sign")
        return counted([list(name) + self.numbers(self.with_itself(name)) for name in names])

    def at(self, c, row):
        knowledge = frozenset((hand, number) for hand, many in enumerate(row) for number in range(many))
        if not knowledge <= self.known[c]:
            return [-4]
        if any(not self.doings[name][2] <= knowledge for name in knowledge):
            return [-7]
        return [0] + counted(self.view(knowledge))

    def overlaps(self, c):
        pairs = []
        shown = self.view(self.known[c])
        for second, other in enumerate(shown):
            for first, one in enumerate(shown[:second]):
                if one[4] == other[4] and set(range(one[2], one[3])) & set(range(other[2], other[3])):
                    pairs.append((first, second, one[:2] + other[:2]))
        return counted([pair[2] for pair in sorted(pairs)])

    def doing(self, c, name):
        kind, told, bears, time = self.doings[name]
        taken = int(self.taken_back(name, self.known[c]))
        return [0, time, taken] + self.numbers(bears) + [KINDS.index(kind)] + list(told)

    def differ(self, c, g):
        one = self.view(self.known[c])
        other = self.view(self.known[g])
        return ([0, int(self.known[c] == self.known[g])] + counted([mark for mark in one if mark not in other])
                + counted([mark for mark in other if mark not in one]))

    def ask_of(self, number, c, name):
        if number == 18:
            found = [one for one in self.marks(self.known[c]) if one[:2] == name]
            return [0] + list(found[0][2:5] + found[0][5] + found[0][6]) if found else [-4]
        if name not in self.known[c] or number == 16 and self.doings[name][0] != "sign":
            return [-4]
        return self.doing(c, name) if number == 20 else [0] + counted(self.view(self.with_itself(name)))

    def ask(self, number, told):
        if number in (16, 18, 20):
            return self.ask_of(number, told[0], told[1:])
        if number in (17, 21):
            return {17: self.at, 21: self.differ}[number](*told)
        if number == 22:
            return [0] + counted([(g,) + name for g, name in self.bag])
        if number == 23:
            return [0, self.n, self.length, len(self.doings), len(self.bag)]
        c = told[0]
        return [0] + {12: lambda: counted(self.view(self.known[c])),
                      13: lambda: self.numbers(self.known[c]) + counted(self.waiting[c]),
                      14: lambda: self.stable(c), 15: lambda: self.signs(c), 19: lambda: self.overlaps(c)}[number]()

    def wrong(self, call):
        told = dict(zip(FORMS[call[0]], call[1:]))
        row = told.pop("knowledge", (0,) * self.n)
        most = {"n": (1, 5), "length": (1, 1000), "x": (0, 9), "k": (0, 120)}
        if call[0] != 0:
            most.update({"c": (0, self.n - 1), "g": (0, self.n - 1), "m": (0, self.n - 1), "a": (0, self.length),
                         "i": (0, len(self.bag) - 1)})
        if "b" in told:
            most["b"] = (told["a"] + 1, self.length)
        return any(not most[name][0] <= told[name] <= most[name][1] for name in told) or (
            call[0] == 8 and call[1] == call[2]) or len(row) != self.n or any(not 0 <= one <= 120 for one in row)

    def do(self, c, kind, told):
        if len(self.doings) == 120:
            return [-6]
        bears = self.known[c]
        number = len([name for name in self.doings if name[0] == c])
        time = 1 + max([self.doings[name][3] for name in bears], default=0)
        self.doings[(c, number)] = (kind, told, bears, time)
        self.known[c] = bears | {(c, number)}
        return [0, number]

    def back(self, c, k):
        if (c, k) not in self.doings:
            return [-4]
        if self.doings[(c, k)][0] in ("sign", "hello"):
            return [-7]
        if self.taken_back((c, k), frozenset(self.doings)):
            return [-5]
        return self.do(c, "back", (k,))

    def send(self, c, g):
        lacking = sorted(self.known[c] - self.surely(g, self.known[c]))
        if len(self.bag) + len(lacking) > 60:
            return [-6]
        self.bag += [(g, name) for name in lacking]
        return [0, len(lacking)]

    def deliver(self, i):
        g, name = self.bag.pop(i)
        before = len(self.known[g])
        if name not in self.known[g] and name not in self.waiting[g]:
            self.waiting[g].append(name)
            ready = [name]
            while ready:
                ready = [one for one in self.waiting[g] if self.doings[one][2] <= self.known[g]]
                for one in ready[:1]:
                    self.known[g] |= {one}
                    self.waiting[g].remove(one)
        return [0, len(self.known[g]) - before, len(self.waiting[g])]

    def answer(self, call):
        number, told = call[0], call[1:]
        if number != 0 and self.n == 0:
            return [-9]
        if self.wrong(call):
            return [-1]
        if number == 0:
            self.new(*told)
            return [0]
        if number > 11:
            return self.ask(number, told)
        if number in (2, 3, 4) and told[1:3] not in [mark[:2] for mark in self.view(self.known[told[0]])]:
            return [-4]
        if number in (1, 2, 3, 4, 6, 7):
            return self.do(told[0], KINDS[number - 1], told[1:])
        if number in (5, 8, 9):
            return {5: self.back, 8: self.send, 9: self.deliver}[number](*told)
        if number == 11 and len(self.bag) == 60:
            return [-6]
        if number == 10:
            self.bag.pop(told[0])
        else:
            self.bag.append(self.bag[told[0]])
        return [0]


FORMS = {0: ("n", "length"), 1: ("c", "a", "b", "x"), 2: ("c", "m", "k", "a", "b"), 3: ("c", "m", "k", "x"),
         4: ("c", "m", "k"), 5: ("c", "k"), 6: ("c",), 7: ("c",), 8: ("c", "g"), 9: ("i",), 10: ("i",), 11: ("i",),
         12: ("c",), 13: ("c",), 14: ("c",), 15: ("c",), 16: ("c", "m", "k"), 17: ("c", "knowledge"),
         18: ("c", "m", "k"), 19: ("c",), 20: ("c", "m", "k"), 21: ("c", "g"), 22: (), 23: ()}

# How often each call of 0 to 11 comes, by its number: doings of all kinds, much talk, few words and many backs, a full
# bag.
WEIGHTS = ((0, 9, 9, 9, 4, 9, 2, 3, 5, 30, 2, 3), (0, 5, 4, 4, 2, 4, 1, 2, 12, 60, 4, 4),
           (0, 4, 4, 4, 4, 40, 1, 1, 3, 20, 1, 1), (1, 9, 9, 9, 3, 3, 3, 9, 9, 9, 1, 9))

WRONG = (-1, 0, 1, 5, 6, 9, 10, 120, 121, 1000, 1001, FAR, -FAR)


def some_knowledge(dice, model, c):
    """Mostly within what the copy knows: what one doing bears, with itself or not, or any numbers up to these."""
    if model.n == 0 or not 0 <= c < model.n or dice.random() < 0.1:
        return tuple(dice.choice(WRONG) for place in range(dice.choice((0, 1, model.n, model.n + 1, 10))))
    names = sorted(model.known[c])
    if names and dice.random() < 0.6:
        name = dice.choice(names)
        return tuple(model.numbers(dice.choice((model.doings[name][2], model.with_itself(name)))))
    return tuple(dice.randrange(many + 1) + (dice.random() < 0.05) for many in model.numbers(model.known[c]))


def some_number(dice, model, name, told):
    if name == "knowledge":
        return some_knowledge(dice, model, told[0])
    if dice.random() < 0.02:
        return dice.choice(WRONG)
    if name in ("c", "g", "m"):
        return dice.randrange(max(model.n, 1))
    if name == "k":
        return dice.randrange(12)
    if name == "i":
        return dice.randrange(max(len(model.bag) if model.n else 0, 1))
    if name == "a":
        return dice.randrange(6)
    return {"n": 3, "length": 9, "x": dice.randrange(10), "b": told[-1] + dice.randrange(1, 4) if told else 0}[name]


def some_names(dice, model, number, c):
    """Names of which the call could ask something in this copy; none if they are to be any."""
    if model.n == 0 or not 0 <= c < model.n or dice.random() < 0.1:
        return []
    if number in (2, 3, 4, 18):
        return [mark[:2] for mark in model.view(model.known[c])]
    if number == 16:
        return sorted(name for name in model.known[c] if model.doings[name][0] == "sign")
    return sorted(model.known[c]) if number == 20 else []


def some_call(dice, model, number):
    told = []
    for name in FORMS[number]:
        told.append(some_number(dice, model, name, told))
        if name == "k" and number != 5:
            names = some_names(dice, model, number, told[0])
            told[1:3] = dice.choice(names) if names else told[1:3]
        if name == "g" and model.n > 1 and told[0] == told[1] and dice.random() < 0.9:
            told[1] = (told[0] + 1) % model.n
    return (number,) + tuple(told)


def some_line(seed, asking):
    """Calls, and what the model answers. asking: how many of a hundred calls are of 12 to 23."""
    dice = random.Random(seed)
    model = Model()
    calls = []
    given = []
    weights = WEIGHTS[seed % len(WEIGHTS)]
    # Hands come first, but for a few lines; in some they come a second time, later on.
    begins = [seed % 7 // 6] + ([100] if seed % 5 == 0 else [])
    for place in range(300):
        number = dice.randrange(12, 24) if dice.randrange(100) < asking else dice.choices(range(12), weights)[0]
        call = some_call(dice, model, number)
        if place in begins:
            call = (0, dice.randrange(1, 6), dice.choice((1, 6, 9, 1000)))
        calls.append(call)
        given.append(model.answer(call))
    return calls, given, model


class BesideTheModel(unittest.TestCase):
    @classmethod
    def setUpClass(cls):
        cls.lines = [some_line(seed, 0) for seed in range(40)] + [some_line(seed, 45) for seed in range(40, 160)]
        cls.pairs = [pair for calls, given, model in cls.lines for pair in zip(calls, given)]

    def test_answers(self):
        for seed, (calls, given, model) in enumerate(self.lines):
            with self.subTest(seed=seed):
                self.assertEqual(ask(calls), given)

    def test_the_lines_tell_every_refusal_and_every_call(self):
        told = {(call[0], min(one[0], 0)) for call, one in self.pairs}
        for number in range(24):
            self.assertIn((number, 0), told)
            self.assertTrue((number, -1) in told or number in (22, 23))
        for pair in ((2, -4), (3, -4), (4, -4), (5, -4), (5, -7), (5, -5), (8, -6), (11, -6), (1, -6), (7, -6),
                     (16, -4), (17, -4), (17, -7), (18, -4), (20, -4)):
            self.assertIn(pair, told)

    def test_the_lines_ask_for_much(self):
        right = [(call, one) for call, one in self.pairs if one[0] == 0]
        more = [one[1:] for call, one in right if call[0] == 9]
        self.assertTrue(any(known > 2 for known, waiting in more))
        self.assertTrue(any(known > 0 and waiting > 1 for known, waiting in more))
        for number in (12, 16, 17, 19, 22):
            self.assertGreater(max(one[1] for call, one in right if call[0] == number), 2, number)
        self.assertEqual({one[1] for call, one in right if call[0] == 21}, {0, 1})
        self.assertEqual({one[2] for call, one in right if call[0] == 20}, {0, 1})
        self.assertTrue(any(one[4:6] != one[6:8] for call, one in right if call[0] == 18))
        self.assertTrue(any(any(one[1:]) for call, one in right if call[0] == 14))
        self.assertEqual({one[1] for call, one in right if call[0] == 23}, {1, 2, 3, 4, 5})

    def test_what_is_known_waits_and_shows(self):
        for seed, (calls, given, model) in enumerate(self.lines):
            with self.subTest(seed=seed):
                line = run(calls)
                for c in range(model.n):
                    known = {(m, k) for m, many in enumerate(line.known[c]) for k in range(many)}
                    self.assertEqual(known, model.known[c])
                    self.assertEqual(line.waiting[c], model.waiting[c])
                    self.assertEqual(view(line.doings, line.known[c]), model.view(model.known[c]))
                self.assertEqual([(g, (m, k)) for g, m, k in line.bag], model.bag)

    def test_what_doings_bear_their_times_and_the_views_of_it(self):
        for seed, (calls, given, model) in enumerate(self.lines):
            with self.subTest(seed=seed):
                line = run(calls)
                for one in sum(line.doings, []):
                    told = model.doings[(one.hand, one.number)]
                    bears = {(m, k) for m, many in enumerate(one.bears) for k in range(many)}
                    self.assertEqual((bears, one.time), (told[2], told[3]))
                    if one.number % 8 == 7:
                        self.assertEqual(view(line.doings, one.bears), model.view(told[2]))

    def test_refused_calls_can_be_left_out(self):
        for seed, (calls, given, model) in enumerate(self.lines):
            with self.subTest(seed=seed):
                right = [(call, one) for call, one in zip(calls, given) if one[0] == 0]
                self.assertEqual(ask([call for call, one in right]), [one for call, one in right])

    def test_calls_that_only_ask_can_be_left_out(self):
        for seed, (calls, given, model) in enumerate(self.lines):
            with self.subTest(seed=seed):
                acts = [(call, one) for call, one in zip(calls, given) if call[0] < 12]
                self.assertEqual(ask([call for call, one in acts]), [one for call, one in acts])

    def test_what_is_handed_in_stays_and_answers_the_same_again(self):
        for seed, (calls, given, model) in enumerate(self.lines):
            with self.subTest(seed=seed):
                numbers = flat(calls)
                before = list(numbers)
                first = answers(numbers)
                self.assertEqual(numbers, before)
                self.assertEqual(answers(numbers), first)


if __name__ == "__main__":
    unittest.main()
