"""hands, and the calls of doings: what each answers, the edges of its numbers, and its own refusals."""

import unittest

from helper import (FAR, ask, back, drop, hands, hello, label, last, lose, move, put, refused, run, send, sign, state,
                    tell)


class Hands(unittest.TestCase):
    def test_edges(self):
        for n, length in ((1, 1), (1, 1000), (5, 1), (5, 1000), (3, 77)):
            with self.subTest(n=n, length=length):
                self.assertEqual(ask([hands(n, length)]), [[0]])
                self.assertEqual(ask([hands(n, length), hello(n - 1), hello(n)])[1:], [[0, 0], [-1]])
                self.assertEqual(ask([hands(n, length), put(0, 0, length, 0), put(0, 0, length + 1, 0)])[1:],
                                 [[0, 0], [-1]])

    def test_out_of_range(self):
        wrong = [hands(0, 5), hands(6, 5), hands(-1, 5), hands(FAR, 5), hands(-FAR, 5), hands(2, 0), hands(2, 1001),
                 hands(2, -1), hands(2, FAR), hands(2, -FAR), hands(0, 0)]
        refused(self, [], wrong, -1)
        refused(self, [hands(2, 9), put(0, 0, 3, 1), send(0, 1)], wrong, -1)

    def test_a_refused_one_makes_no_hands(self):
        self.assertEqual(ask([hands(6, 5), hello(0), hands(1, 1), hello(0)]), [[-1], [-9], [0], [0, 0]])

    def test_a_second_one_makes_all_new(self):
        before = [hands(3, 50), put(0, 0, 9, 1), hello(0), put(1, 3, 40, 2), send(0, 1), (9, 1), sign(2)]
        self.assertEqual(state(run(before + [hands(2, 7)])), state(run([hands(2, 7)])))
        found = ask(before + [hands(2, 7), lose(0), send(0, 1), move(0, 0, 0, 1, 2), hello(2), put(1, 0, 8, 0),
                              put(1, 0, 7, 0), back(0, 0)])
        self.assertEqual(found[len(before):], [[0], [-1], [0, 0], [-4], [-1], [-1], [0, 0], [-4]])

    def test_a_second_one_with_the_same_numbers_makes_all_new(self):
        before = [hands(2, 9), put(0, 0, 9, 1), send(0, 1)]
        self.assertEqual(ask(before + [hands(2, 9), hello(0), lose(0)])[3:], [[0], [0, 0], [-1]])


class Put(unittest.TestCase):
    def test_numbers_of_each_hand(self):
        found = ask([hands(3, 9), put(0, 0, 1, 0), put(2, 0, 1, 0), put(0, 0, 1, 0), put(2, 3, 4, 5), put(0, 1, 2, 9)])
        self.assertEqual(found[1:], [[0, 0], [0, 0], [0, 1], [0, 1], [0, 2]])

    def test_edges(self):
        for call in (put(0, 0, 1, 0), put(0, 0, 20, 9), put(0, 19, 20, 0), put(1, 19, 20, 9)):
            with self.subTest(call=call):
                self.assertEqual(last([hands(2, 20), call]), [0, 0])
        self.assertEqual(last([hands(1, 1), put(0, 0, 1, 0)]), [0, 0])
        self.assertEqual(last([hands(1, 1000), put(0, 999, 1000, 0)]), [0, 0])

    def test_out_of_range(self):
        wrong = [put(2, 0, 1, 0), put(-1, 0, 1, 0), put(FAR, 0, 1, 0), put(-FAR, 0, 1, 0),
                 put(0, -1, 1, 0), put(0, 20, 20, 0), put(0, 20, 21, 0), put(0, 21, 22, 0), put(0, -FAR, 1, 0),
                 put(0, FAR, FAR, 0), put(0, 5, 5, 0), put(0, 5, 4, 0), put(0, 0, 0, 0), put(0, 0, 21, 0),
                 put(0, 0, FAR, 0), put(0, 0, -FAR, 0), put(0, 0, 1, -1), put(0, 0, 1, 10), put(0, 0, 1, FAR),
                 put(0, 0, 1, -FAR)]
        refused(self, [hands(2, 20)], wrong, -1)


class OfMarks(unittest.TestCase):
    """move, label and drop, which need a mark of the hand's view."""

    def of(self, c, m, k):
        return [move(c, m, k, 1, 2), label(c, m, k, 3), drop(c, m, k)]

    def test_of_an_own_mark(self):
        for call in self.of(0, 0, 1):
            with self.subTest(call=call):
                self.assertEqual(last([hands(1, 9), hello(0), put(0, 0, 3, 1), call]), [0, 2])

    def test_of_a_mark_that_was_heard_of(self):
        before = tell([hands(2, 9), hello(1), put(1, 0, 3, 1)], 1, 0)
        for call in self.of(0, 1, 1):
            with self.subTest(call=call):
                self.assertEqual(last(before + [call]), [0, 0])

    def test_edges(self):
        before = [hands(2, 20), put(1, 5, 6, 7)]
        for call in (move(1, 1, 0, 0, 1), move(1, 1, 0, 0, 20), move(1, 1, 0, 19, 20), label(1, 1, 0, 0),
                     label(1, 1, 0, 9)):
            with self.subTest(call=call):
                self.assertEqual(last(before + [call]), [0, 1])

    def test_the_last_number_that_can_be(self):
        before = [hands(1, 9)] + [hello(0)] * 118 + [put(0, 0, 1, 0)]
        for call in self.of(0, 0, 118):
            with self.subTest(call=call):
                self.assertEqual(last(before + [call]), [0, 119])

    def test_no_such_mark(self):
        before = [hands(2, 9), put(0, 0, 3, 1), hello(0), sign(0), move(0, 0, 0, 1, 2), back(0, 3)]
        wrong = [call for name in ((0, 1), (0, 2), (0, 3), (0, 4), (0, 5), (0, 120), (1, 0), (1, 120))
                 for call in self.of(0, *name)]
        refused(self, before, wrong, -4)

    def test_a_mark_that_was_not_heard_of(self):
        before = [hands(2, 9), put(0, 0, 3, 1), send(0, 1)]
        refused(self, before, self.of(1, 0, 0), -4)

    def test_a_mark_that_waits(self):
        before = [hands(2, 9), hello(0), put(0, 0, 3, 1), send(0, 1), (9, 1)]
        refused(self, before, self.of(1, 0, 1), -4)
        for call in self.of(1, 0, 1):
            self.assertEqual(last(before + [(9, 0), call]), [0, 0])

    def test_a_mark_that_is_dropped(self):
        before = [hands(1, 9), put(0, 0, 3, 1), drop(0, 0, 0)]
        refused(self, before, self.of(0, 0, 0), -4)
        for call in self.of(0, 0, 0):
            self.assertEqual(last(before + [back(0, 1), call]), [0, 3])
            self.assertEqual(ask(before + [back(0, 1), back(0, 2), call])[-1], [-4])

    def test_a_mark_whose_put_is_taken_back(self):
        before = [hands(1, 9), put(0, 0, 3, 1), back(0, 0)]
        refused(self, before, self.of(0, 0, 0), -4)
        for call in self.of(0, 0, 0):
            self.assertEqual(last(before + [back(0, 1), call]), [0, 3])

    def test_a_mark_that_another_hand_dropped(self):
        before = tell([hands(2, 9), put(0, 0, 3, 1)], 0, 1) + [drop(1, 0, 0)]
        for call in self.of(0, 0, 0):
            self.assertEqual(last(before + [call]), [0, 1])
        refused(self, before, self.of(1, 0, 0), -4)
        refused(self, tell(before, 1, 0), self.of(0, 0, 0), -4)

    def test_hand_and_number_out_of_range(self):
        wrong = [call for name in ((2, 0, 0), (-1, 0, 0), (FAR, 0, 0), (-FAR, 0, 0), (0, 2, 0), (0, -1, 0), (0, 5, 0),
                                   (0, FAR, 0), (0, -FAR, 0), (0, 0, -1), (0, 0, 121), (0, 0, FAR), (0, 0, -FAR))
                 for call in self.of(*name)]
        refused(self, [hands(2, 9), put(0, 0, 3, 1)], wrong, -1)

    def test_stretch_and_label_out_of_range(self):
        wrong = [move(0, 0, 0, -1, 1), move(0, 0, 0, 9, 9), move(0, 0, 0, 9, 10), move(0, 0, 0, 0, 0),
                 move(0, 0, 0, 4, 3), move(0, 0, 0, 0, 10), move(0, 0, 0, -FAR, FAR), move(0, 0, 0, FAR, -FAR),
                 label(0, 0, 0, -1), label(0, 0, 0, 10), label(0, 0, 0, FAR), label(0, 0, 0, -FAR)]
        refused(self, [hands(2, 9), put(0, 0, 3, 1)], wrong, -1)


class Back(unittest.TestCase):
    DOINGS = [hands(2, 9), put(0, 0, 3, 1), move(0, 0, 0, 1, 2), label(0, 0, 0, 3), drop(0, 0, 0)]

    def test_of_each_kind(self):
        for k in range(4):
            with self.subTest(k=k):
                self.assertEqual(last(self.DOINGS + [back(0, k)]), [0, 4])
                self.assertEqual(last(self.DOINGS + [back(0, k), back(0, 4)]), [0, 5])

    def test_taken_back_already(self):
        for k in range(4):
            with self.subTest(k=k):
                refused(self, self.DOINGS + [back(0, k)], [back(0, k)], -5)

    def test_a_back_that_is_taken_back(self):
        before = self.DOINGS + [back(0, 0), back(0, 4)]
        refused(self, before, [back(0, 4)], -5)
        self.assertEqual(last(before + [back(0, 0)]), [0, 6])
        self.assertEqual(last(before + [back(0, 5)]), [0, 6])
        refused(self, before + [back(0, 5)], [back(0, 0), back(0, 5)], -5)
        self.assertEqual(last(before + [back(0, 5), back(0, 4)]), [0, 7])

    def test_no_such_doing(self):
        refused(self, self.DOINGS, [back(0, 4), back(0, 119), back(0, 120), back(1, 0), back(1, 120)], -4)

    def test_another_hand_s_doing_is_not_its_own(self):
        refused(self, tell(self.DOINGS, 0, 1), [back(1, 0)], -4)

    def test_of_a_sign_or_a_hello(self):
        refused(self, [hands(2, 9), sign(1), hello(1)], [back(1, 0), back(1, 1)], -7)

    def test_out_of_range(self):
        wrong = [back(2, 0), back(-1, 0), back(FAR, 0), back(-FAR, 0), back(0, -1), back(0, 121), back(0, FAR),
                 back(0, -FAR)]
        refused(self, self.DOINGS, wrong, -1)


class SignAndHello(unittest.TestCase):
    def test_numbers(self):
        found = ask([hands(5, 1), sign(4), hello(4), sign(0), sign(4), hello(0)])
        self.assertEqual(found[1:], [[0, 0], [0, 1], [0, 0], [0, 2], [0, 1]])

    def test_out_of_range(self):
        wrong = [call for c in (-1, 2, 5, FAR, -FAR) for call in (sign(c), hello(c))]
        refused(self, [hands(2, 9)], wrong, -1)


class ManyDoings(unittest.TestCase):
    DOINGS = [put(0, 0, 1, 0), move(0, 0, 0, 1, 2), label(0, 0, 0, 1), drop(0, 0, 0), back(0, 0), sign(0), hello(0)]

    def test_the_120th_and_the_121st_of_one_hand(self):
        before = [hands(1, 9), put(0, 0, 3, 1)] + [hello(0)] * 118
        for call in self.DOINGS:
            with self.subTest(call=call):
                self.assertEqual(last(before + [call]), [0, 119])
        refused(self, before + [hello(0)], self.DOINGS, -6)

    def test_the_120th_and_the_121st_of_all_hands_together(self):
        before = [hands(5, 9), put(0, 0, 3, 1)] + [hello(c) for c in range(5) for k in range(23)] + [sign(3)] * 3
        for call in self.DOINGS:
            with self.subTest(call=call):
                self.assertEqual(last(before + [call]), [0, 24])
        refused(self, before + [hello(1)], self.DOINGS + [hello(1), sign(2), put(3, 0, 1, 0), hello(4)], -6)

    def test_hands_makes_room_again(self):
        before = [hands(1, 9)] + [hello(0)] * 120
        self.assertEqual(last(before + [hands(1, 9), hello(0)]), [0, 0])

    def test_a_refused_doing_takes_no_room(self):
        before = [hands(1, 9)] + [hello(0)] * 119 + [put(0, 3, 3, 0), drop(0, 0, 0), back(0, 0), hello(0), hello(0)]
        self.assertEqual(ask(before)[120:], [[-1], [-4], [-7], [0, 119], [-6]])


if __name__ == "__main__":
    unittest.main()
