"""How calls are handed in and answers given back, and what the interface says over the whole program."""

import contextlib
import io
import sys
import unittest

from helper import FAR, ask, back, deliver, double, drop, flat, hands, hello, label, lose, move, put, send, sign
from nighthands.copies import answers

LONG = [
    hands(3, 50), put(0, 0, 10, 1), put(1, 5, 20, 2), send(0, 1), deliver(0), move(1, 0, 0, 3, 9), label(1, 0, 0, 4),
    send(1, 2), double(0), deliver(3), deliver(0), deliver(0), lose(0), sign(2), back(1, 1), drop(0, 0, 0), hello(1),
]

# Calls 12 to 23 with numbers in their ranges, for a line of two hands.
ASKING = [
    (12, 0), (13, 0), (14, 1), (15, 0), (16, 0, 0, 0), (17, 0, (0, 0)), (18, 0, 0, 0), (19, 0), (20, 0, 0, 0),
    (21, 0, 1), (22,), (23,),
]


class Sealed(list):
    """A list that fails as soon as something would change it."""

    def refuse(self, *told, **named):
        raise AssertionError("the list that was handed in is changed")

    append = extend = insert = pop = remove = clear = sort = reverse = refuse
    __setitem__ = __delitem__ = __iadd__ = __imul__ = refuse


class FormOfAnswers(unittest.TestCase):
    def test_each_answer_comes_behind_its_count(self):
        calls = [0, 2, 10, 1, 0, 0, 5, 3, 8, 0, 1, 9, 0, 7, 1]
        self.assertEqual(answers(calls), [1, 0, 2, 0, 0, 2, 0, 1, 3, 0, 1, 0, 2, 0, 0])

    def test_a_refusal_is_its_number_alone(self):
        self.assertEqual(answers([7, 0]), [1, -9])
        self.assertEqual(answers([0, 0, 5]), [1, -1])
        self.assertEqual(answers([0, 1, 1, 5, 0, 0]), [1, 0, 1, -4])

    def test_answers_are_a_list_of_ints(self):
        given = answers(flat(LONG))
        self.assertIs(type(given), list)
        self.assertEqual({type(number) for number in given}, {int})

    def test_one_call_alone(self):
        self.assertEqual(answers([0, 1, 1]), [1, 0])

    def test_three_hundred_calls(self):
        self.assertEqual(ask([hands(1, 1)] + [lose(0)] * 299), [[0]] + [[-1]] * 299)


class CallsThatOnlyAsk(unittest.TestCase):
    def test_they_are_read_to_their_end(self):
        plain = ask([hands(2, 9), hello(0), hello(0)])
        for call in ASKING:
            with self.subTest(call=call):
                found = ask([hands(2, 9), hello(0), call, hello(0)])
                self.assertEqual(len(found), 4)
                self.assertEqual(found[:2] + found[3:], plain)

    def test_rows_of_every_size_are_read_to_their_end(self):
        for size in range(11):
            with self.subTest(size=size):
                found = ask([hands(2, 9), (17, 0, (7,) * size), hello(1)])
                self.assertEqual(len(found), 3)
                self.assertEqual(found[2], [0, 0])

    def test_without_hands(self):
        for call in ASKING:
            with self.subTest(call=call):
                self.assertEqual(ask([call, hands(2, 9)]), [[-9], [0]])

    def test_numbers_out_of_range(self):
        wrong = [(number, c) for number in (12, 13, 14, 15, 19) for c in (-1, 2, FAR, -FAR)]
        wrong += [(number,) + told for number in (16, 18, 20)
                  for told in ((2, 0, 0), (-1, 0, 0), (0, 2, 0), (0, -1, 0), (0, 0, -1), (0, 0, 121))]
        wrong += [(21, 2, 0), (21, -1, 0), (21, 0, 2), (21, 0, -1)]
        for call in wrong:
            with self.subTest(call=call):
                self.assertEqual(ask([hands(2, 9), call, hello(0)])[1:], [[-1], [0, 0]])

    def test_a_list_that_is_not_as_told(self):
        for row in ((), (0,), (0, 0, 0), (0,) * 10, (0, -1), (121, 0), (FAR, -FAR)):
            with self.subTest(row=row):
                self.assertEqual(ask([hands(2, 9), (17, 0, row), hello(0)])[1:], [[-1], [0, 0]])
        self.assertEqual(ask([hands(2, 9), (17, 2, (0, 0)), hello(0)])[1:], [[-1], [0, 0]])

    def test_numbers_in_range_are_not_refused_for_it(self):
        for call in ASKING + [(17, 1, (120, 120)), (16, 1, 1, 120), (18, 1, 1, 120), (20, 1, 1, 120), (21, 1, 1)]:
            with self.subTest(call=call):
                self.assertNotIn(ask([hands(2, 9), call])[1], ([-1], [-9]))


class WholeProgram(unittest.TestCase):
    def test_what_is_handed_in_is_the_same_afterwards(self):
        calls = flat(LONG + ASKING)
        before = list(calls)
        answers(calls)
        self.assertEqual(calls, before)

    def test_what_is_handed_in_is_not_changed_for_a_while_either(self):
        calls = flat(LONG + ASKING)
        self.assertEqual(answers(Sealed(calls)), answers(calls))

    def test_the_same_list_twice(self):
        calls = flat(LONG)
        self.assertEqual(answers(calls), answers(calls))

    def test_nothing_is_kept(self):
        answers(flat(LONG))
        self.assertEqual(answers([7, 0]), [1, -9])
        first = answers(flat(LONG))
        answers(flat([hands(5, 1000)] + [hello(4)] * 120))
        self.assertEqual(answers(flat(LONG)), first)

    def test_what_was_given_back_is_the_caller_s_own(self):
        calls = flat(LONG)
        first = answers(calls)
        kept = list(first)
        first.clear()
        self.assertEqual(answers(calls), kept)

    def test_nothing_is_printed_or_read(self):
        out = io.StringIO()
        err = io.StringIO()
        plain = sys.stdin
        sys.stdin = None
        try:
            with contextlib.redirect_stdout(out), contextlib.redirect_stderr(err):
                answers(flat(LONG))
        finally:
            sys.stdin = plain
        self.assertEqual((out.getvalue(), err.getvalue()), ("", ""))

    def test_long_chains_are_gone_through_by_loops(self):
        chain = [hands(1, 1), put(0, 0, 1, 0)] + [back(0, k) for k in range(119)]
        depth = sys.getrecursionlimit()
        sys.setrecursionlimit(100)
        try:
            found = ask(chain)
        finally:
            sys.setrecursionlimit(depth)
        self.assertEqual(found[1:], [[0, k] for k in range(120)])


if __name__ == "__main__":
    unittest.main()
