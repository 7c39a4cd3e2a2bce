"""known, stable, signs, doing, bag, counts: what is told of doings, knowledge and messages."""

import unittest

from helper import (FAR, ask, back, bag, counts, deliver, doing, double, drop, hands, hello, known, label, last, lose,
                    move, put, refused, send, sign, signs, stable, tell)


class Known(unittest.TestCase):
    def test_nothing(self):
        for n in (1, 2, 5):
            self.assertEqual(last([hands(n, 9), known(n - 1)]), [0] * (n + 2))

    def test_its_own_and_what_it_heard(self):
        before = tell([hands(3, 9), hello(0), hello(0), hello(2)], 0, 1) + [sign(1)]
        self.assertEqual(last(before + [known(0)]), [0, 2, 0, 0, 0])
        self.assertEqual(last(before + [known(1)]), [0, 2, 1, 0, 0])
        self.assertEqual(last(before + [known(2)]), [0, 0, 0, 1, 0])

    def test_what_waits_in_the_order_in_which_it_came(self):
        before = [hands(3, 9)] + [hello(0)] * 4 + [hello(2)] * 2 + [send(0, 1), send(2, 1)]
        before += [deliver(3), deliver(1), deliver(3), deliver(1)]
        self.assertEqual(last(before + [known(1)]), [0, 0, 0, 0, 4, 0, 3, 0, 1, 2, 1, 0, 2])
        self.assertEqual(last(before + [deliver(1), known(1)]), [0, 0, 0, 2, 3, 0, 3, 0, 1, 0, 2])
        self.assertEqual(last(before + [deliver(0), known(1)]), [0, 4, 0, 0, 1, 2, 1])
        self.assertEqual(last(before + [known(0)]), [0, 4, 0, 0, 0])

    def test_what_comes_twice_waits_once(self):
        before = [hands(2, 9), hello(0), hello(0), send(0, 1), double(1), deliver(1), deliver(1)]
        self.assertEqual(last(before + [known(1)]), [0, 0, 0, 1, 0, 1])

    def test_what_waits_for_another_hand_s(self):
        before = tell([hands(3, 9), hello(0)], 0, 1) + [hello(1), send(1, 2), deliver(1)]
        self.assertEqual(last(before + [known(2)]), [0, 0, 0, 0, 1, 1, 0])
        self.assertEqual(last(before + [deliver(0), known(2)]), [0, 1, 1, 0, 0])

    def test_120_doings(self):
        self.assertEqual(last([hands(1, 9)] + [hello(0)] * 120 + [known(0)]), [0, 120, 0])
        before = [hands(5, 9)] + [hello(c) for c in range(5) for k in range(24)]
        for c in range(5):
            self.assertEqual(last(before + [known(c)]), [0] + [24 * (hand == c) for hand in range(5)] + [0])

    def test_asking_does_not_change_what_is_known(self):
        before = tell([hands(2, 9), hello(0), known(0), known(0)], 0, 1) + [known(1)]
        self.assertEqual(ask(before + [hello(1), known(1)])[-3:], [[0, 1, 0, 0], [0, 0], [0, 1, 1, 0]])

    def test_out_of_range(self):
        refused(self, [hands(2, 9), hello(0)], [known(c) for c in (-1, 2, 5, FAR, -FAR)], -1)


class Stable(unittest.TestCase):
    def test_nothing(self):
        for n in (1, 2, 5):
            self.assertEqual(last([hands(n, 9), stable(0)]), [0] * (n + 1))

    def test_a_hand_alone_is_all(self):
        self.assertEqual(last([hands(1, 9), hello(0), put(0, 0, 1, 1), stable(0)]), [0, 2])

    def test_what_was_told_is_sure_only_once_it_is_answered(self):
        before = tell([hands(2, 9), hello(0), hello(0)], 0, 1)
        self.assertEqual(last(before + [stable(0)]), [0, 0, 0])
        # By its own copy hand 1 is sure of hand 0, which did both.
        self.assertEqual(last(before + [stable(1)]), [0, 2, 0])
        before = tell(before + [hello(1)], 1, 0)
        self.assertEqual(last(before + [stable(0)]), [0, 2, 1])
        self.assertEqual(last(before + [stable(1)]), [0, 2, 0])
        before = tell(before + [hello(0)], 0, 1)
        self.assertEqual(last(before + [stable(0)]), [0, 2, 1])
        self.assertEqual(last(before + [stable(1)]), [0, 3, 1])

    def test_its_own_copy_counts_as_it_is_and_not_by_its_last_doing(self):
        before = tell([hands(2, 9), hello(0), hello(1), hello(1)], 1, 0)
        self.assertEqual(last(before + [stable(0)]), [0, 0, 2])

    def test_the_last_doing_of_the_others_tells(self):
        before = tell([hands(2, 9), hello(0), hello(1)], 0, 1) + [hello(1), hello(0)]
        before = tell(before, 0, 1) + [hello(1), send(1, 0)]
        self.assertEqual(last(before + [deliver(0), stable(0)]), [0, 0, 1])
        self.assertEqual(last(before + [deliver(0), deliver(0), stable(0)]), [0, 1, 2])
        self.assertEqual(last(before + [deliver(0), deliver(0), deliver(0), stable(0)]), [0, 2, 3])

    def test_the_least_of_all_hands(self):
        before = tell([hands(3, 9), hello(0), hello(0)], 0, 1)
        before = tell(before + [hello(1)], 1, 0)
        self.assertEqual(last(before + [stable(0)]), [0, 0, 0, 0])
        # Hand 0 tells hand 2 of hand 1's doing too; hand 1 has not heard of hand 2's.
        before = tell(before, 0, 2) + [hello(2)]
        before = tell(before, 2, 0)
        self.assertEqual(last(before + [stable(0)]), [0, 2, 1, 0])
        before = tell(before, 0, 1) + [hello(1)]
        before = tell(before, 1, 0)
        self.assertEqual(last(before + [stable(0)]), [0, 2, 1, 1])

    def test_what_waits_tells_nothing(self):
        before = tell([hands(2, 9), hello(0), hello(1)], 0, 1) + [hello(1), send(1, 0), deliver(1)]
        self.assertEqual(last(before + [stable(0)]), [0, 0, 0])
        self.assertEqual(last(before + [deliver(0), stable(0)]), [0, 1, 2])

    def test_five_hands(self):
        before = [hands(5, 9), hello(4)]
        for c in range(4):
            before = tell(before, 4, c) + [hello(c)]
            self.assertEqual(last(before + [stable(4)]), [0, 0, 0, 0, 0, 0])
            before = tell(before, c, 4)
        # Hand 0's doing was told to all behind it; hand 0 has not heard of theirs.
        self.assertEqual(last(before + [stable(4)]), [0, 1, 0, 0, 0, 1])

    def test_120_doings(self):
        self.assertEqual(last([hands(1, 9)] + [hello(0)] * 120 + [stable(0)]), [0, 120])

    def test_out_of_range(self):
        refused(self, [hands(2, 9), hello(0)], [stable(c) for c in (-1, 2, 5, FAR, -FAR)], -1)


class Signs(unittest.TestCase):
    def test_none(self):
        for n in (1, 5):
            self.assertEqual(last([hands(n, 9), put(0, 0, 1, 1), hello(0), signs(0)]), [0, 0])

    def test_the_first_doing_of_all(self):
        self.assertEqual(last([hands(3, 9), sign(1), signs(1)]), [0, 1, 1, 0, 0, 1, 0])

    def test_of_several_hands_by_hands_and_numbers(self):
        before = tell([hands(3, 9), hello(2), sign(2), hello(0), sign(2)], 2, 1)
        before = tell(before + [sign(1), hello(1)], 1, 0) + [sign(0), sign(0)]
        of_2 = [2, 1, 0, 0, 2, 2, 2, 0, 0, 3]
        of_1 = [1, 0, 0, 1, 3]
        of_0 = [0, 1, 2, 2, 3, 0, 2, 3, 2, 3]
        self.assertEqual(last(before + [signs(2)]), [0, 2] + of_2)
        self.assertEqual(last(before + [signs(1)]), [0, 3] + of_1 + of_2)
        self.assertEqual(last(before + [signs(0)]), [0, 5] + of_0 + of_1 + of_2)

    def test_they_stay_as_they_were(self):
        before = tell([hands(2, 9), put(0, 0, 1, 1), sign(1)], 0, 1) + [sign(1)]
        plain = last(before + [signs(1)])
        self.assertEqual(plain, [0, 2, 1, 0, 0, 1, 1, 1, 1, 2])
        before = tell(before + [drop(0, 0, 0), back(0, 0), label(1, 0, 0, 3)], 0, 1)
        self.assertEqual(last(before + [signs(1)]), plain)

    def test_what_is_not_known_yet(self):
        before = [hands(2, 9), sign(0), sign(0), send(0, 1), deliver(1)]
        self.assertEqual(last(before + [signs(1)]), [0, 0])
        self.assertEqual(last(before + [deliver(0), signs(1)]), [0, 2, 0, 0, 1, 0, 0, 1, 2, 0])

    def test_only_the_known_ones_of_a_hand(self):
        before = tell([hands(2, 9), sign(0), hello(0)], 0, 1) + [sign(0)]
        self.assertEqual(last(before + [signs(1)]), [0, 1, 0, 0, 1, 0])

    def test_120(self):
        before = [hands(1, 9)] + [sign(0)] * 120
        self.assertEqual(last(before + [signs(0)]), [0, 120] + [one for k in range(120) for one in (0, k, k + 1)])

    def test_five_hands(self):
        self.assertEqual(last([hands(5, 9), hello(4), sign(4), signs(4)]), [0, 1, 4, 1, 0, 0, 0, 0, 2])

    def test_out_of_range(self):
        refused(self, [hands(2, 9), sign(0)], [signs(c) for c in (-1, 2, 5, FAR, -FAR)], -1)


class TheDoing(unittest.TestCase):
    def test_of_each_kind(self):
        before = [hands(2, 9), put(1, 2, 5, 7), move(1, 1, 0, 3, 4), label(1, 1, 0, 8), drop(1, 1, 0), back(1, 3),
                  sign(1), hello(1)]
        found = ask(before + [doing(1, 1, k) for k in range(7)])[len(before):]
        self.assertEqual(found, [
            [0, 1, 0, 0, 0, 0, 2, 5, 7], [0, 2, 0, 0, 1, 1, 1, 0, 3, 4], [0, 3, 0, 0, 2, 2, 1, 0, 8],
            [0, 4, 1, 0, 3, 3, 1, 0], [0, 5, 0, 0, 4, 4, 3], [0, 6, 0, 0, 5, 5], [0, 7, 0, 0, 6, 6]])

    def test_another_hand_s_mark(self):
        before = tell([hands(3, 9), hello(2), put(2, 2, 5, 7)], 2, 0)
        before += [hello(0), move(0, 2, 1, 0, 1), label(0, 2, 1, 3), drop(0, 2, 1)]
        self.assertEqual(last(before + [doing(0, 0, 1)]), [0, 4, 0, 1, 0, 2, 1, 2, 1, 0, 1])
        self.assertEqual(last(before + [doing(0, 0, 2)]), [0, 5, 0, 2, 0, 2, 2, 2, 1, 3])
        self.assertEqual(last(before + [doing(0, 0, 3)]), [0, 6, 0, 3, 0, 2, 3, 2, 1])

    def test_time_and_what_it_bears(self):
        before = tell([hands(3, 9), hello(0), hello(0), hello(1)], 0, 1)
        before += [hello(1)]
        self.assertEqual(last(before + [doing(1, 0, 0)]), [0, 1, 0, 0, 0, 0, 6])
        self.assertEqual(last(before + [doing(1, 0, 1)]), [0, 2, 0, 1, 0, 0, 6])
        self.assertEqual(last(before + [doing(1, 1, 0)]), [0, 1, 0, 0, 0, 0, 6])
        self.assertEqual(last(before + [doing(1, 1, 1)]), [0, 3, 0, 2, 1, 0, 6])

    def test_what_it_bears_stays_as_it_was(self):
        before = tell([hands(2, 9), hello(1), hello(0)], 1, 0) + [hello(0)]
        self.assertEqual(last(before + [doing(0, 0, 0)]), [0, 1, 0, 0, 0, 6])
        self.assertEqual(last(before + [doing(0, 0, 1)]), [0, 2, 0, 1, 1, 6])

    def test_taken_back_in_what_the_copy_knows(self):
        before = tell([hands(2, 9), put(0, 0, 1, 1)], 0, 1) + [back(0, 0)]
        self.assertEqual(last(before + [doing(0, 0, 0)]), [0, 1, 1, 0, 0, 0, 0, 1, 1])
        self.assertEqual(last(before + [doing(1, 0, 0)]), [0, 1, 0, 0, 0, 0, 0, 1, 1])
        before = tell(before, 0, 1) + [back(0, 1)]
        self.assertEqual(last(before + [doing(0, 0, 0)])[2], 0)
        self.assertEqual(last(before + [doing(0, 0, 1)]), [0, 2, 1, 1, 0, 4, 0])
        self.assertEqual(last(before + [doing(1, 0, 0)])[2], 1)
        self.assertEqual(last(before + [doing(1, 0, 1)]), [0, 2, 0, 1, 0, 4, 0])

    def test_taken_back_of_every_kind(self):
        before = [hands(1, 9), put(0, 0, 1, 1), move(0, 0, 0, 1, 2), label(0, 0, 0, 3), drop(0, 0, 0), put(0, 0, 1, 1),
                  back(0, 4)]
        for k in (0, 1, 2, 3, 5):
            with self.subTest(k=k):
                self.assertEqual(last(before + [doing(0, 0, k)])[2], 0)
                self.assertEqual(last(before + [back(0, k), doing(0, 0, k)])[2], 1)
                self.assertEqual(last(before + [back(0, k), back(0, 6), doing(0, 0, k)])[2], 0)

    def test_another_hand_s_back_of_the_same_number(self):
        before = tell([hands(2, 9), put(0, 0, 1, 1), put(1, 1, 2, 2), back(1, 0)], 1, 0)
        self.assertEqual(last(before + [doing(0, 0, 0)])[2], 0)
        self.assertEqual(last(before + [doing(0, 1, 0)])[2], 1)

    def test_a_dropped_mark_s_put_is_not_taken_back(self):
        self.assertEqual(last([hands(1, 9), put(0, 0, 1, 1), drop(0, 0, 0), doing(0, 0, 0)])[2], 0)

    def test_not_known(self):
        before = [hands(2, 9), hello(0), hello(0), send(0, 1), deliver(1)]
        refused(self, before, [doing(0, 0, 2), doing(0, 0, 120), doing(0, 1, 0), doing(1, 0, 0), doing(1, 0, 1),
                               doing(1, 1, 0), doing(1, 1, 120)], -4)
        self.assertEqual(last(before + [deliver(0), doing(1, 0, 1)]), [0, 2, 0, 1, 0, 6])

    def test_120_doings(self):
        before = [hands(1, 9)] + [hello(0)] * 119 + [sign(0)]
        self.assertEqual(last(before + [doing(0, 0, 119)]), [0, 120, 0, 119, 5])
        refused(self, before, [doing(0, 0, 120)], -4)
        chain = [hands(1, 9), put(0, 0, 1, 0)] + [back(0, k) for k in range(119)]
        found = ask(chain + [doing(0, 0, k) for k in range(120)])[121:]
        self.assertEqual([one[2] for one in found], [1, 0] * 60)

    def test_five_hands(self):
        before = tell([hands(5, 9), hello(0), put(4, 0, 9, 9)], 4, 0) + [hello(0)]
        self.assertEqual(last(before + [doing(0, 0, 1)]), [0, 2, 0, 1, 0, 0, 0, 1, 6])
        self.assertEqual(last(before + [doing(0, 4, 0)]), [0, 1, 0, 0, 0, 0, 0, 0, 0, 0, 9, 9])

    def test_out_of_range(self):
        wrong = [doing(*told) for told in ((2, 0, 0), (-1, 0, 0), (FAR, 0, 0), (-FAR, 0, 0), (0, 2, 0), (0, -1, 0),
                                           (0, FAR, 0), (0, -FAR, 0), (0, 0, -1), (0, 0, 121), (0, 0, FAR),
                                           (0, 0, -FAR))]
        refused(self, [hands(2, 9), hello(0)], wrong, -1)
        refused(self, [hands(2, 9)], [doing(0, 0, 121), doing(1, 2, 0), doing(2, 1, 0)], -1)


class Bag(unittest.TestCase):
    def test_empty(self):
        self.assertEqual(last([hands(1, 9), bag()]), [0, 0])
        self.assertEqual(last([hands(5, 9), hello(0), bag()]), [0, 0])

    def test_where_each_goes_and_what_it_brings(self):
        before = [hands(3, 9), hello(2), hello(0), hello(0), send(0, 2), send(2, 1)]
        self.assertEqual(last(before + [bag()]), [0, 3, 2, 0, 0, 2, 0, 1, 1, 2, 0])
        self.assertEqual(last(before + [double(0), bag()]), [0, 4, 2, 0, 0, 2, 0, 1, 1, 2, 0, 2, 0, 0])
        self.assertEqual(last(before + [lose(1), bag()]), [0, 2, 2, 0, 0, 1, 2, 0])
        self.assertEqual(last(before + [deliver(2), bag()]), [0, 2, 2, 0, 0, 2, 0, 1])

    def test_all_that_is_told_on(self):
        before = tell([hands(3, 9), hello(0), hello(0)], 0, 1) + [hello(1), send(1, 2)]
        self.assertEqual(last(before + [bag()]), [0, 3, 2, 0, 0, 2, 0, 1, 2, 1, 0])

    def test_sixty_messages(self):
        before = [hands(2, 9)] + [hello(0)] * 60 + [send(0, 1)]
        full = [0, 60] + [one for k in range(60) for one in (1, 0, k)]
        self.assertEqual(last(before + [bag()]), full)
        self.assertEqual(ask(before + [double(0), send(0, 1), bag()])[-3:], [[-6], [-6], full])

    def test_hands_empties_it(self):
        self.assertEqual(last([hands(2, 9), hello(0), send(0, 1), hands(2, 9), bag()]), [0, 0])


class Counts(unittest.TestCase):
    def test_at_the_beginning(self):
        self.assertEqual(last([hands(1, 1), counts()]), [0, 1, 1, 0, 0])
        self.assertEqual(last([hands(5, 1000), counts()]), [0, 5, 1000, 0, 0])

    def test_doings_of_all_hands_and_messages(self):
        before = [hands(3, 70), put(0, 0, 9, 1), hello(0), sign(2), send(0, 1), deliver(0)]
        self.assertEqual(last(before + [counts()]), [0, 3, 70, 3, 1])
        self.assertEqual(last(before + [double(0), back(0, 0), counts()]), [0, 3, 70, 4, 2])
        self.assertEqual(last(before + [lose(0), counts()]), [0, 3, 70, 3, 0])

    def test_120_doings_and_60_messages(self):
        before = [hands(2, 9)] + [hello(0)] * 60 + [hello(1)] * 60 + [send(1, 0)]
        self.assertEqual(last(before + [counts()]), [0, 2, 9, 120, 60])
        self.assertEqual(ask(before + [hello(0), double(0), counts()])[-3:], [[-6], [-6], [0, 2, 9, 120, 60]])

    def test_a_second_hands(self):
        before = [hands(3, 70), hello(0), send(0, 1)]
        self.assertEqual(last(before + [hands(2, 5), counts()]), [0, 2, 5, 0, 0])
        self.assertEqual(ask(before + [hands(6, 5), hands(2, 0), counts()])[-1], [0, 3, 70, 1, 1])


if __name__ == "__main__":
    unittest.main()
