"""What a doing bears, its time, which of two is later, which are taken back, and the view of some knowledge."""

import unittest

from helper import back, drop, hands, hello, label, move, put, run, sign, tell
from nighthands.doings import counting, lateness, taken_back
from nighthands.line import lacks, surely_known
from nighthands.views import view


def view_of(line, hand):
    return view(line.doings, line.known[hand])


class WhatADoingIs(unittest.TestCase):
    def test_kinds_and_what_they_tell(self):
        line = run([hands(1, 9), put(0, 1, 4, 7), move(0, 0, 0, 2, 5), label(0, 0, 0, 8), drop(0, 0, 0), back(0, 3),
                    sign(0), hello(0)])
        self.assertEqual([(one.kind, one.told) for one in line.doings[0]], [
            (0, (1, 4, 7)), (1, (0, 0, 2, 5)), (2, (0, 0, 8)), (3, (0, 0)), (4, (3,)), (5, ()), (6, ())])
        self.assertEqual([(one.hand, one.number) for one in line.doings[0]], [(0, k) for k in range(7)])

    def test_what_it_bears_and_its_time(self):
        calls = tell([hands(3, 9), hello(0), hello(0), hello(2)], 0, 1) + [hello(1), hello(0)]
        line = run(tell(calls, 1, 2) + [hello(2), hello(1)])
        told = {(one.hand, one.number): (one.bears, one.time) for own in line.doings for one in own}
        self.assertEqual(told, {
            (0, 0): ((0, 0, 0), 1), (0, 1): ((1, 0, 0), 2), (2, 0): ((0, 0, 0), 1), (1, 0): ((2, 0, 0), 3),
            (0, 2): ((2, 0, 0), 3), (2, 1): ((2, 1, 1), 4), (1, 1): ((2, 1, 0), 4)})

    def test_what_it_bears_does_not_change_with_the_copy(self):
        line = run(tell([hands(2, 9), hello(1), hello(0)], 1, 0) + [hello(0)])
        self.assertEqual([one.bears for one in line.doings[0]], [(0, 0), (1, 1)])

    def test_the_later_one_has_the_greater_time_then_the_greater_hand(self):
        line = run([hands(3, 9), hello(2), hello(0), hello(0), hello(1)])
        names = [(one.hand, one.number) for one in sorted(sum(line.doings, []), key=lateness)]
        self.assertEqual(names, [(0, 0), (1, 0), (2, 0), (0, 1)])


class TakenBack(unittest.TestCase):
    def taken(self, calls, many):
        line = run([hands(1, 9)] + calls)
        return taken_back(line.doings[0], many)

    def test_a_back(self):
        calls = [put(0, 0, 1, 0), put(0, 1, 2, 0), back(0, 0)]
        self.assertEqual(self.taken(calls, 3), [True, False, False])

    def test_only_what_is_in_the_knowledge_takes_back(self):
        calls = [put(0, 0, 1, 0), back(0, 0), back(0, 1)]
        self.assertEqual(self.taken(calls, 0), [])
        self.assertEqual(self.taken(calls, 1), [False])
        self.assertEqual(self.taken(calls, 2), [True, False])
        self.assertEqual(self.taken(calls, 3), [False, True, False])

    def test_backs_of_backs_of_backs(self):
        calls = [put(0, 0, 1, 0)] + [back(0, k) for k in range(4)]
        self.assertEqual(self.taken(calls, 4), [True, False, True, False])
        self.assertEqual(self.taken(calls, 5), [False, True, False, True, False])

    def test_a_second_back_of_the_same_doing(self):
        calls = [put(0, 0, 1, 0), back(0, 0), back(0, 1), back(0, 0)]
        self.assertEqual(self.taken(calls, 4), [True, True, False, False])

    def test_a_back_is_of_the_hand_s_own_doing_alone(self):
        line = run([hands(2, 9), put(0, 0, 1, 0), put(1, 1, 2, 0), back(1, 0)])
        self.assertEqual([(one.hand, one.number) for one in counting(line.doings, [1, 2])], [(0, 0), (1, 1)])


class TheView(unittest.TestCase):
    def test_empty(self):
        line = run([hands(2, 9), sign(0), hello(1)])
        self.assertEqual(view_of(line, 0), [])

    def test_put_move_label(self):
        calls = [hands(1, 9), put(0, 0, 3, 1)]
        self.assertEqual(view_of(run(calls), 0), [(0, 0, 0, 3, 1)])
        calls.append(move(0, 0, 0, 4, 9))
        self.assertEqual(view_of(run(calls), 0), [(0, 0, 4, 9, 1)])
        calls.append(label(0, 0, 0, 9))
        self.assertEqual(view_of(run(calls), 0), [(0, 0, 4, 9, 9)])
        calls.append(move(0, 0, 0, 1, 2))
        self.assertEqual(view_of(run(calls), 0), [(0, 0, 1, 2, 9)])

    def test_backs_bring_the_one_before_into_force(self):
        calls = [hands(1, 9), put(0, 0, 3, 1), move(0, 0, 0, 4, 9), label(0, 0, 0, 9), back(0, 1)]
        self.assertEqual(view_of(run(calls), 0), [(0, 0, 0, 3, 9)])
        calls.append(back(0, 2))
        self.assertEqual(view_of(run(calls), 0), [(0, 0, 0, 3, 1)])
        calls.append(back(0, 3))
        self.assertEqual(view_of(run(calls), 0), [(0, 0, 4, 9, 1)])

    def test_a_put_that_counts_again_is_no_later_for_it(self):
        calls = [hands(1, 9), put(0, 0, 3, 1), move(0, 0, 0, 4, 9), back(0, 0)]
        self.assertEqual(view_of(run(calls), 0), [])
        calls.append(back(0, 2))
        self.assertEqual(view_of(run(calls), 0), [(0, 0, 4, 9, 1)])

    def test_a_drop_holds_whatever_is_later(self):
        calls = tell([hands(2, 9), put(0, 0, 3, 1)], 0, 1)
        calls += [drop(0, 0, 0), hello(1), hello(1), move(1, 0, 0, 5, 6), label(1, 0, 0, 2)]
        calls = tell(tell(calls, 1, 0), 0, 1)
        self.assertEqual(view_of(run(calls), 0), [])
        self.assertEqual(view_of(run(calls), 1), [])
        calls = tell(calls + [back(0, 1)], 0, 1)
        self.assertEqual(view_of(run(calls), 0), [(0, 0, 5, 6, 2)])
        self.assertEqual(view_of(run(calls), 1), [(0, 0, 5, 6, 2)])

    def test_two_drops_are_both_to_be_taken_back(self):
        calls = tell([hands(2, 9), put(0, 0, 3, 1)], 0, 1)
        calls = tell(calls + [drop(0, 0, 0), drop(1, 0, 0)], 1, 0) + [back(0, 1)]
        self.assertEqual(view_of(run(calls), 0), [])
        calls = tell(calls + [back(1, 0)], 1, 0)
        self.assertEqual(view_of(run(calls), 0), [(0, 0, 0, 3, 1)])

    def test_with_one_time_the_greater_hand_holds(self):
        calls = tell(tell([hands(3, 9), put(1, 0, 3, 1)], 1, 0), 1, 2)
        calls += [move(2, 1, 0, 2, 4), move(0, 1, 0, 5, 6), label(0, 1, 0, 5), label(2, 1, 0, 6)]
        calls = tell(tell(calls, 2, 1), 0, 1)
        self.assertEqual(view_of(run(calls), 1), [(1, 0, 2, 4, 6)])

    def test_the_greater_time_holds_over_the_greater_hand(self):
        calls = tell([hands(2, 9), put(1, 0, 3, 1)], 1, 0)
        calls += [hello(0), move(0, 1, 0, 5, 6), move(1, 1, 0, 2, 4)]
        calls = tell(tell(calls, 1, 0), 0, 1)
        self.assertEqual(view_of(run(calls), 0), [(1, 0, 5, 6, 1)])
        self.assertEqual(view_of(run(calls), 1), [(1, 0, 5, 6, 1)])

    def test_order_of_marks(self):
        calls = [hands(2, 9), put(1, 2, 5, 0), put(1, 1, 9, 3), put(1, 1, 8, 4), put(1, 1, 8, 3), put(1, 1, 8, 3),
                 put(0, 1, 8, 3)]
        line = run(tell(calls, 0, 1))
        self.assertEqual(view_of(line, 1), [
            (0, 0, 1, 8, 3), (1, 3, 1, 8, 3), (1, 4, 1, 8, 3), (1, 2, 1, 8, 4), (1, 1, 1, 9, 3), (1, 0, 2, 5, 0)])

    def test_copies_that_know_the_same_show_the_same(self):
        calls = tell(tell([hands(2, 9), put(0, 0, 3, 1), put(1, 0, 3, 1)], 0, 1), 1, 0)
        calls += [move(0, 1, 0, 4, 5), move(1, 1, 0, 6, 7), label(1, 0, 0, 2), drop(0, 1, 0), back(0, 2)]
        line = run(tell(tell(calls, 0, 1), 1, 0))
        self.assertEqual(line.known[0], line.known[1])
        self.assertEqual(view_of(line, 0), view_of(line, 1))
        self.assertEqual(view_of(line, 0), [(0, 0, 0, 3, 2), (1, 0, 6, 7, 1)])

    def test_of_less_than_a_copy_knows(self):
        line = run([hands(1, 9), put(0, 0, 3, 1), move(0, 0, 0, 4, 5), back(0, 1), drop(0, 0, 0)])
        self.assertEqual([view(line.doings, [many]) for many in range(5)], [
            [], [(0, 0, 0, 3, 1)], [(0, 0, 4, 5, 1)], [(0, 0, 0, 3, 1)], []])


class WhatIsSurelyKnown(unittest.TestCase):
    def test_nothing_of_a_hand_that_was_not_heard(self):
        line = run([hands(2, 9), hello(0), hello(1)])
        self.assertEqual(surely_known(line, 1, line.known[0]), [0, 0])
        self.assertEqual(lacks(line, 0, 1), [(0, 0)])

    def test_what_the_last_one_bears_and_that_one(self):
        calls = tell([hands(3, 9), hello(0), hello(2), hello(2)], 2, 1) + [hello(1), hello(1)]
        line = run(tell(calls, 1, 0) + [hello(0)])
        self.assertEqual(line.known[0], [2, 2, 2])
        self.assertEqual(surely_known(line, 1, line.known[0]), [0, 2, 2])
        self.assertEqual(surely_known(line, 2, line.known[0]), [0, 0, 2])
        self.assertEqual(surely_known(line, 1, [0, 1, 2]), [0, 1, 2])
        self.assertEqual(lacks(line, 0, 1), [(0, 0), (0, 1)])
        self.assertEqual(lacks(line, 0, 2), [(0, 0), (0, 1), (1, 0), (1, 1)])


if __name__ == "__main__":
    unittest.main()
