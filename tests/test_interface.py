"""How calls are handed in and answers given back, and what the interface says over the whole program."""

import contextlib
import io
import sys
import unittest

from helper import (FAR, ask, at, back, bag, counts, deliver, differ, doing, double, drop, flat, hands, hello, known,
                    label, lose, mark, move, overlaps, put, run, send, sign, signed, signs, stable, state, view)
from nighthands.calls import answer
from nighthands.copies import answers

LONG = [
    hands(3, 50), put(0, 0, 10, 1), put(1, 5, 20, 2), send(0, 1), deliver(0), move(1, 0, 0, 3, 9), label(1, 0, 0, 4),
    send(1, 2), double(0), deliver(3), deliver(0), deliver(0), lose(0), sign(2), back(1, 1), put(0, 2, 4, 1),
    drop(1, 1, 0), hello(1),
]

# Calls 12 to 23. None of these is refused behind LONG ..
ASKING = [
    view(0), known(0), stable(1), signs(2), signed(2, 2, 0), at(1, 1, 1, 0), mark(0, 0, 0), overlaps(0), doing(0, 0, 0),
    differ(0, 1), bag(), counts(),
]

# .. and each of these is.
REFUSED = [
    view(3), known(-1), stable(3), signs(FAR), signed(0, 0, 0), signed(0, 0, 121), at(0, 0), at(0, 0, 120, 0),
    at(2, 0, 2, 0), mark(0, 0, 2), mark(3, 0, 0), overlaps(-FAR), doing(2, 1, 9), doing(0, 3, 0), differ(0, 3),
]

ALL = LONG + ASKING + REFUSED + [hands(2, 9)] + LONG + ASKING


class Sealed(list):
    """A list that fails as soon as something would change it."""

    def refuse(self, *told, **named):
        raise AssertionError("the list that was handed in is changed")

    append = extend = insert = pop = remove = clear = sort = reverse = refuse
    __setitem__ = __delitem__ = __iadd__ = __imul__ = refuse


class FormOfAnswers(unittest.TestCase):
    def test_each_answer_comes_behind_its_count(self):
        calls = [0, 2, 10, 1, 0, 0, 5, 3, 8, 0, 1, 9, 0, 7, 1]
        self.assertEqual(answers(calls), [1, 0, 2, 0, 0, 2, 0, 1, 3, 0, 1, 0, 2, 0, 0])

    def test_a_refusal_is_its_number_alone(self):
        self.assertEqual(answers([7, 0]), [1, -9])
        self.assertEqual(answers([0, 0, 5]), [1, -1])
        self.assertEqual(answers([0, 1, 1, 5, 0, 0]), [1, 0, 1, -4])

    def test_answers_are_a_list_of_ints(self):
        given = answers(flat(LONG + ASKING + REFUSED))
        self.assertIs(type(given), list)
        self.assertEqual({type(number) for number in given}, {int})

    def test_one_call_alone(self):
        self.assertEqual(answers([0, 1, 1]), [1, 0])

    def test_three_hundred_calls(self):
        self.assertEqual(ask([hands(1, 1)] + [lose(0)] * 299), [[0]] + [[-1]] * 299)

    def test_long_answers(self):
        many = [hands(1, 9)] + [put(0, 0, 9, 1)] * 120
        found = ask(many + [overlaps(0)] * 100 + [view(0)] * 79)[121:]
        self.assertEqual({len(one) for one in found[:100]}, {2 + 4 * 7140})
        self.assertEqual({len(one) for one in found[100:]}, {2 + 5 * 120})


class CallsThatOnlyAsk(unittest.TestCase):
    def test_they_change_nothing(self):
        plain = state(run(LONG))
        for call in ASKING:
            with self.subTest(call=call):
                found = ask(LONG + [call, call])
                self.assertEqual(found[-2][0], 0)
                self.assertEqual(found[-2], found[-1])
                self.assertEqual(state(run(LONG + [call])), plain)

    def test_refused_ones_change_nothing(self):
        plain = state(run(LONG))
        for call in REFUSED:
            with self.subTest(call=call):
                self.assertIn(ask(LONG + [call])[-1], ([-1], [-4], [-7]))
                self.assertEqual(state(run(LONG + [call])), plain)

    def test_the_calls_behind_them_answer_as_if_they_had_not_been_there(self):
        for asking in (ASKING, REFUSED):
            mixed = []
            for call in LONG:
                mixed += [call] + asking
            self.assertLessEqual(len(mixed), 300)
            found = ask(mixed)
            self.assertEqual(found[::1 + len(asking)], ask(LONG))
            self.assertEqual(found[-len(asking):], ask(LONG + asking)[len(LONG):])

    def test_what_they_answer_is_not_what_the_line_holds(self):
        line = run(LONG)
        plain = state(line)
        for call in ASKING:
            with self.subTest(call=call):
                given = answer(line, call[0], call[1:])
                given.clear()
                self.assertEqual(state(line), plain)

    def test_rows_of_every_size_are_read_to_their_end(self):
        for size in range(11):
            with self.subTest(size=size):
                found = ask([hands(2, 9), at(0, *[7] * size), hello(1)])
                self.assertEqual(len(found), 3)
                self.assertEqual(found[1:], [[-4] if size == 2 else [-1], [0, 0]])

    def test_rows_that_look_like_calls(self):
        self.assertEqual(ask([hands(2, 9), at(0, 0, 1), at(0, 7, 0, 23), at(0, 0, 0), counts()])[1:],
                         [[-4], [-1], [0, 0], [0, 2, 9, 0, 0]])

    def test_without_hands(self):
        for call in ASKING + REFUSED + [at(0), at(0, *[FAR] * 10)]:
            with self.subTest(call=call):
                self.assertEqual(ask([call, hands(2, 9)]), [[-9], [0]])

    def test_behind_hands_that_were_refused(self):
        for call in ASKING:
            self.assertEqual(ask([hands(6, 9), hands(2, 0), call]), [[-1], [-1], [-9]])

    def test_behind_a_second_hands_nothing_is_left(self):
        found = ask(LONG + [hands(2, 9), view(0), known(1), stable(0), signs(0), signed(0, 1, 0), at(0, 0, 0),
                            mark(0, 0, 0), overlaps(0), doing(0, 0, 0), differ(0, 1), bag(), counts(), view(2)])
        self.assertEqual(found[len(LONG):], [[0], [0, 0], [0, 0, 0, 0], [0, 0, 0], [0, 0], [-4], [0, 0], [-4], [0, 0],
                                             [-4], [0, 1, 0, 0], [0, 0], [0, 2, 9, 0, 0], [-1]])


class WholeProgram(unittest.TestCase):
    def test_what_is_handed_in_is_the_same_afterwards(self):
        calls = flat(ALL)
        before = list(calls)
        answers(calls)
        self.assertEqual(calls, before)

    def test_what_is_handed_in_is_not_changed_for_a_while_either(self):
        calls = flat(ALL)
        self.assertEqual(answers(Sealed(calls)), answers(calls))

    def test_the_same_list_twice(self):
        calls = flat(ALL)
        self.assertEqual(answers(calls), answers(calls))

    def test_nothing_is_kept(self):
        answers(flat(ALL))
        self.assertEqual(answers([7, 0]), [1, -9])
        first = answers(flat(ALL))
        answers(flat([hands(5, 1000)] + [hello(4)] * 120))
        self.assertEqual(answers(flat(ALL)), first)

    def test_what_was_given_back_is_the_caller_s_own(self):
        calls = flat(ALL)
        first = answers(calls)
        kept = list(first)
        first.clear()
        self.assertEqual(answers(calls), kept)

    def test_nothing_is_printed_or_read(self):
        out = io.StringIO()
        err = io.StringIO()
        plain = sys.stdin
        sys.stdin = None
        try:
            with contextlib.redirect_stdout(out), contextlib.redirect_stderr(err):
                answers(flat(ALL))
        finally:
            sys.stdin = plain
        self.assertEqual((out.getvalue(), err.getvalue()), ("", ""))

    def test_long_chains_are_gone_through_by_loops(self):
        chain = [hands(1, 1), put(0, 0, 1, 0)] + [back(0, k) for k in range(119)]
        chain += [view(0), doing(0, 0, 0), mark(0, 0, 0), at(0, 119), at(0, 120), differ(0, 0), overlaps(0)]
        depth = sys.getrecursionlimit()
        sys.setrecursionlimit(100)
        try:
            found = ask(chain)
        finally:
            sys.setrecursionlimit(depth)
        self.assertEqual(found[1:121], [[0, k] for k in range(120)])
        self.assertEqual(found[121:], [[0, 0], [0, 1, 1, 0, 0, 0, 1, 0], [-4], [0, 1, 0, 0, 0, 1, 0], [0, 0],
                                       [0, 1, 0, 0], [0, 0]])


if __name__ == "__main__":
    unittest.main()
