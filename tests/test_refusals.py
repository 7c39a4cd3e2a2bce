"""The order of refusals: where several could be told, the first in the document's order counts."""

import unittest

from helper import (FAR, ask, at, back, bag, counts, deliver, differ, doing, double, drop, hands, hello, known, label,
                    last, lose, mark, move, overlaps, put, run, send, sign, signed, signs, stable, state, view)

# A line on which 120 doings are done, so that -6 could be told of every call of doings. Hand 0 has a put that is
# taken back (0), its back (1), a put that counts (2), a back of it that is taken back (3), the back of that (4), then
# hellos (5 to 54) and a sign (55).
FULL = ([hands(2, 9), put(0, 0, 3, 1), back(0, 0), put(0, 0, 3, 1), back(0, 2), back(0, 3)] + [hello(0)] * 50
        + [sign(0)] + [hello(1)] * 64)


class NoHands(unittest.TestCase):
    def test_all_calls_but_hands(self):
        for call in (put(0, 0, 1, 0), move(0, 0, 0, 0, 1), label(0, 0, 0, 0), drop(0, 0, 0), back(0, 0), sign(0),
                     hello(0), send(0, 1), deliver(0), lose(0), double(0)):
            with self.subTest(call=call):
                self.assertEqual(ask([call, hands(1, 1), hello(0)]), [[-9], [0], [0, 0]])

    def test_before_a_number_out_of_range(self):
        for call in (put(-1, 5, 5, 10), move(9, 9, -1, 3, 3), label(0, 0, 121, 10), drop(FAR, FAR, FAR), back(-1, -1),
                     sign(-FAR), hello(FAR), send(0, 0), deliver(-1), lose(FAR), double(-FAR)):
            with self.subTest(call=call):
                self.assertEqual(ask([call]), [[-9]])

    def test_a_number_out_of_range_of_hands(self):
        self.assertEqual(ask([hands(0, 1001)]), [[-1]])

    def test_of_calls_that_only_ask_too(self):
        for call in (view(0), known(0), stable(0), signs(0), signed(0, 0, 0), at(0, 0), mark(0, 0, 0), overlaps(0),
                     doing(0, 0, 0), differ(0, 0), bag(), counts()):
            with self.subTest(call=call):
                self.assertEqual(ask([call, hands(1, 1), counts()]), [[-9], [0], [0, 1, 1, 0, 0]])

    def test_of_calls_that_only_ask_before_a_number_out_of_range(self):
        for call in (view(-1), known(5), stable(FAR), signs(-FAR), signed(0, 9, 121), at(-1), at(0, *[-1] * 10),
                     mark(0, 0, -1), overlaps(-1), doing(FAR, FAR, FAR), differ(-1, 0)):
            with self.subTest(call=call):
                self.assertEqual(ask([call]), [[-9]])


class InOrder(unittest.TestCase):
    def told(self, call, number):
        with self.subTest(call=call):
            self.assertEqual(ask(FULL + [call])[-1], [number])
            self.assertEqual(state(run(FULL + [call])), state(run(FULL)))

    def test_120_are_done(self):
        self.assertEqual(sum(len(own) for own in run(FULL).doings), 120)
        self.told(put(0, 0, 1, 0), -6)
        self.told(back(0, 1), -6)
        self.told(sign(1), -6)

    def test_range_before_all_others(self):
        for call in (put(0, 0, 10, 0), move(0, 0, 0, 3, 3), move(0, 1, 121, 0, 1), label(0, 0, 0, 10), drop(0, 2, 0),
                     back(0, 121), back(2, 0), sign(2), hello(-1)):
            self.told(call, -1)

    def test_a_missing_mark_before_many_doings(self):
        for call in (move(0, 0, 0, 0, 1), label(0, 0, 0, 9), drop(0, 0, 0), move(0, 1, 120, 0, 1), drop(1, 0, 2)):
            self.told(call, -4)

    def test_a_missing_doing_before_many_doings(self):
        self.told(back(0, 56), -4)
        self.told(back(1, 64), -4)
        self.told(back(1, 120), -4)

    def test_a_sign_or_a_hello_before_many_doings(self):
        self.told(back(0, 5), -7)
        self.told(back(0, 55), -7)
        self.told(back(1, 63), -7)

    def test_taken_back_before_many_doings(self):
        self.told(back(0, 0), -5)
        self.told(back(0, 3), -5)

    def test_a_mark_of_the_view_leaves_many_doings(self):
        for call in (move(0, 0, 2, 0, 1), label(0, 0, 2, 9), drop(0, 0, 2)):
            self.told(call, -6)


    def test_calls_that_only_ask_need_no_room(self):
        for call in (view(0), known(0), stable(0), signs(0), signed(0, 0, 55), at(0, 56, 0), mark(0, 0, 2), overlaps(0),
                     doing(0, 0, 0), differ(0, 1), bag(), counts()):
            with self.subTest(call=call):
                self.assertEqual(ask(FULL + [call])[-1][0], 0)
                self.assertEqual(state(run(FULL + [call])), state(run(FULL)))

    def test_of_calls_that_only_ask(self):
        for call in (view(2), known(2), stable(2), signs(2), signed(2, 0, 54), signed(0, 0, 121), at(0, 56),
                     at(2, 0, 0), at(0, 121, 0), mark(0, 2, 0), overlaps(2), doing(0, 0, 121), differ(2, 0),
                     differ(0, 2)):
            self.told(call, -1)
        for call in (signed(0, 0, 54), signed(1, 0, 55), signed(0, 0, 120), at(0, 57, 0), at(0, 0, 1), at(1, 1, 0),
                     mark(0, 0, 0), mark(1, 0, 2), mark(0, 0, 120), doing(0, 0, 56), doing(1, 0, 0), doing(0, 0, 120)):
            self.told(call, -4)


class NothingChanges(unittest.TestCase):
    def test_refused_calls_can_be_left_out(self):
        wrong = [put(0, 3, 3, 0), move(0, 0, 9, 1, 2), label(1, 0, 0, 1), drop(1, 1, 0), back(0, 7), back(0, 1),
                 send(0, 0), deliver(60), lose(-1), double(60), hands(6, 1), sign(2), hello(-1)]
        right = [hands(2, 9), put(0, 0, 3, 1), hello(0), send(0, 1), deliver(1), hello(0), send(0, 1)]
        plain = ask(right)
        mixed = []
        for call in right:
            mixed.append(call)
            mixed.extend(wrong)
        found = ask(mixed)
        self.assertEqual(found[::len(wrong) + 1], plain)
        self.assertTrue(all(len(one) == 1 and one[0] < 0 for place, one in enumerate(found)
                            if place % (len(wrong) + 1) > 0))

    def test_a_refused_send_leaves_the_bag(self):
        before = [hands(3, 9)] + [hello(0)] * 31 + [send(0, 1), send(0, 2)]
        self.assertEqual(ask(before)[-1], [-6])
        self.assertEqual(ask(before + [lose(30), lose(30)])[-2:], [[0], [-1]])

    def test_a_refused_double_leaves_the_bag(self):
        before = [hands(2, 9)] + [hello(0)] * 60 + [send(0, 1), double(0)]
        self.assertEqual(ask(before + [lose(59), lose(59)])[-3:], [[-6], [0], [-1]])

    def test_last_is_for_lines_without_refusals(self):
        with self.assertRaises(AssertionError):
            last([hands(6, 1), hello(0)])


if __name__ == "__main__":
    unittest.main()
