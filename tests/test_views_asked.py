"""view, signed, at, mark, overlaps, differ: what is shown of marks."""

import unittest

from helper import (FAR, ask, at, back, deliver, differ, drop, hands, hello, known, label, last, lose, mark, move,
                    overlaps, put, refused, send, shown, sign, signed, tell, view)

# All three hands know a put of hand 0. Then 0 and 2 move and label it without hearing of one another, and 1 hears of
# both.
MOVED = tell(tell([hands(3, 20), put(0, 2, 6, 1)], 0, 1), 0, 2)
MOVED += [move(0, 0, 0, 3, 7), label(2, 0, 0, 5), move(2, 0, 0, 4, 8), label(0, 0, 0, 6)]
HEARD = tell(tell(MOVED, 0, 1), 2, 1)


class View(unittest.TestCase):
    def test_how_it_is_told(self):
        before = [hands(1, 20), put(0, 5, 9, 3), put(0, 1, 20, 0)]
        self.assertEqual(last(before + [view(0)]), [0, 2, 0, 1, 1, 20, 0, 0, 0, 5, 9, 3])

    def test_nothing_known(self):
        for n in (1, 5):
            self.assertEqual(last([hands(n, 1), view(n - 1)]), [0, 0])

    def test_doings_without_marks(self):
        self.assertEqual(last([hands(2, 1), sign(0), hello(0), view(0)]), [0, 0])

    def test_copies_that_know_different_things(self):
        before = tell([hands(2, 9), put(0, 0, 3, 1), put(1, 4, 6, 2)], 0, 1) + [move(0, 0, 0, 1, 3)]
        self.assertEqual(shown(before, view(0)), [(0, 0, 1, 3, 1)])
        self.assertEqual(shown(before, view(1)), [(0, 0, 0, 3, 1), (1, 0, 4, 6, 2)])

    def test_what_waits_is_not_shown(self):
        before = [hands(2, 9), put(0, 0, 3, 1), put(0, 1, 4, 1), send(0, 1), deliver(1)]
        self.assertEqual(last(before + [view(1)]), [0, 0])
        self.assertEqual(shown(before + [deliver(0)], view(1)), [(0, 0, 0, 3, 1), (0, 1, 1, 4, 1)])

    def test_moves_and_labels_of_several_hands(self):
        self.assertEqual(shown(MOVED, view(0)), [(0, 0, 3, 7, 6)])
        self.assertEqual(shown(MOVED, view(1)), [(0, 0, 2, 6, 1)])
        self.assertEqual(shown(MOVED, view(2)), [(0, 0, 4, 8, 5)])
        # Hand 2's move (time 3) is later than hand 0's (time 2); hand 0's label (time 3) later than hand 2's (time 2).
        self.assertEqual(shown(HEARD, view(1)), [(0, 0, 4, 8, 6)])

    def test_at_one_time_the_greater_hand_s_holds(self):
        before = tell(tell([hands(3, 20), put(1, 2, 6, 1)], 1, 0), 1, 2)
        before += [move(2, 1, 0, 4, 8), move(0, 1, 0, 3, 7), label(0, 1, 0, 6), label(2, 1, 0, 5)]
        for order in ((0, 2), (2, 0)):
            with self.subTest(order=order):
                calls = tell(tell(before, order[0], 1), order[1], 1)
                self.assertEqual(shown(calls, view(1)), [(1, 0, 4, 8, 5)])

    def test_a_drop_with_later_moves(self):
        before = tell([hands(2, 9), put(0, 0, 3, 1)], 0, 1)
        before += [drop(0, 0, 0), hello(1), hello(1), move(1, 0, 0, 5, 6)]
        self.assertEqual(shown(before, view(1)), [(0, 0, 5, 6, 1)])
        before = tell(before, 1, 0)
        self.assertEqual(shown(before, view(0)), [])
        self.assertEqual(shown(tell(before, 0, 1), view(1)), [])
        self.assertEqual(shown(before + [back(0, 1)], view(0)), [(0, 0, 5, 6, 1)])

    def test_backs(self):
        before = [hands(1, 9), put(0, 0, 3, 1), move(0, 0, 0, 1, 4), label(0, 0, 0, 2)]
        self.assertEqual(shown(before + [back(0, 0)], view(0)), [])
        self.assertEqual(shown(before + [back(0, 0), back(0, 3)], view(0)), [(0, 0, 1, 4, 2)])
        self.assertEqual(shown(before + [back(0, 1)], view(0)), [(0, 0, 0, 3, 2)])
        self.assertEqual(shown(before + [back(0, 2)], view(0)), [(0, 0, 1, 4, 1)])
        self.assertEqual(shown(before + [drop(0, 0, 0), back(0, 3)], view(0)), [(0, 0, 1, 4, 2)])
        self.assertEqual(shown(before + [drop(0, 0, 0), back(0, 3), back(0, 4)], view(0)), [])

    def test_the_order_of_marks(self):
        before = tell([hands(2, 9), put(1, 2, 4, 3), put(1, 2, 4, 3), put(1, 1, 9, 9)], 1, 0)
        before += [put(0, 2, 4, 3), put(0, 2, 4, 2), put(0, 2, 3, 8), put(0, 3, 4, 0), put(0, 1, 8, 9)]
        self.assertEqual(shown(before, view(0)), [
            (0, 4, 1, 8, 9), (1, 2, 1, 9, 9), (0, 2, 2, 3, 8), (0, 1, 2, 4, 2), (0, 0, 2, 4, 3), (1, 0, 2, 4, 3),
            (1, 1, 2, 4, 3), (0, 3, 3, 4, 0)])

    def test_copies_that_know_the_same_show_the_same(self):
        before = tell(tell(tell(tell(HEARD, 1, 0), 1, 2), 0, 2), 2, 0)
        for c in (0, 1, 2):
            self.assertEqual(shown(before, view(c)), [(0, 0, 4, 8, 6)])

    def test_120_marks(self):
        before = [hands(5, 1000)] + [put(4, k, k + 1, k % 10) for k in range(120)]
        self.assertEqual(shown(before, view(4)), [(4, k, k, k + 1, k % 10) for k in range(120)])
        self.assertEqual(shown(before, view(0)), [])

    def test_out_of_range(self):
        refused(self, HEARD, [view(c) for c in (-1, 3, 5, FAR, -FAR)], -1)
        refused(self, [hands(1, 9)], [view(1), view(-1)], -1)


class Signed(unittest.TestCase):
    def test_the_view_of_what_it_stands_for(self):
        before = [hands(1, 9), put(0, 0, 3, 1), sign(0), move(0, 0, 0, 4, 5), label(0, 0, 0, 2), sign(0), drop(0, 0, 0)]
        self.assertEqual(last(before + [signed(0, 0, 1)]), [0, 1, 0, 0, 0, 3, 1])
        self.assertEqual(shown(before, signed(0, 0, 4)), [(0, 0, 4, 5, 2)])
        self.assertEqual(shown(before, view(0)), [])

    def test_it_never_changes(self):
        before = tell([hands(2, 9), put(0, 0, 3, 1), put(0, 5, 6, 1)], 0, 1) + [sign(1)]
        kept = [(0, 0, 0, 3, 1), (0, 1, 5, 6, 1)]
        before = tell(before + [drop(0, 0, 0), back(0, 1), move(1, 0, 1, 7, 8), label(1, 0, 0, 9)], 1, 0)
        for c in (0, 1):
            self.assertEqual(shown(before, signed(c, 1, 0)), kept)
        before = tell(before, 0, 1)
        self.assertEqual(shown(before, view(1)), [])
        self.assertEqual(shown(before, signed(1, 1, 0)), kept)

    def test_what_the_hand_had_not_heard_is_not_in_it(self):
        before = tell([hands(2, 9), put(0, 0, 3, 1), put(1, 2, 4, 2), sign(1)], 1, 0)
        self.assertEqual(shown(before, signed(0, 1, 1)), [(1, 0, 2, 4, 2)])
        before = tell(before, 0, 1) + [sign(1)]
        self.assertEqual(shown(before, signed(1, 1, 2)), [(0, 0, 0, 3, 1), (1, 0, 2, 4, 2)])

    def test_a_back_after_it_counts_not_in_it(self):
        before = [hands(1, 9), put(0, 0, 3, 1), back(0, 0), sign(0), back(0, 1), sign(0), back(0, 3)]
        self.assertEqual(shown(before, signed(0, 0, 2)), [])
        self.assertEqual(shown(before, signed(0, 0, 4)), [(0, 0, 0, 3, 1)])
        self.assertEqual(shown(before, view(0)), [])

    def test_the_first_doing_of_all(self):
        self.assertEqual(last([hands(5, 9), sign(3), put(3, 0, 1, 0), signed(3, 3, 0)]), [0, 0])

    def test_no_such_signature(self):
        before = [hands(2, 9), put(0, 0, 3, 1), move(0, 0, 0, 1, 2), label(0, 0, 0, 2), drop(0, 0, 0), back(0, 3),
                  hello(0), sign(0)]
        refused(self, before, [signed(0, 0, k) for k in (0, 1, 2, 3, 4, 5, 7, 119, 120)], -4)
        refused(self, before, [signed(0, 1, 0), signed(0, 1, 120), signed(1, 0, 6), signed(1, 1, 0)], -4)
        self.assertEqual(last(tell(before, 0, 1) + [signed(1, 0, 6)]), [0, 1, 0, 0, 1, 2, 2])

    def test_one_that_only_waits(self):
        before = [hands(2, 9), hello(0), sign(0), send(0, 1), deliver(1)]
        refused(self, before, [signed(1, 0, 1)], -4)
        self.assertEqual(last(before + [deliver(0), signed(1, 0, 1)]), [0, 0])

    def test_the_120th_doing(self):
        before = [hands(1, 9), put(0, 0, 3, 1)] + [hello(0)] * 118 + [sign(0)]
        self.assertEqual(shown(before, signed(0, 0, 119)), [(0, 0, 0, 3, 1)])
        refused(self, before, [signed(0, 0, 118), signed(0, 0, 120)], -4)

    def test_out_of_range(self):
        wrong = [signed(*told) for told in ((2, 0, 0), (-1, 0, 0), (FAR, 0, 0), (-FAR, 0, 0), (0, 2, 0), (0, -1, 0),
                                            (0, FAR, 0), (0, -FAR, 0), (0, 0, -1), (0, 0, 121), (0, 0, FAR),
                                            (0, 0, -FAR))]
        refused(self, [hands(2, 9), sign(0)], wrong, -1)

    def test_range_before_a_missing_signature(self):
        refused(self, [hands(2, 9), hello(0)], [signed(2, 0, 0), signed(0, 2, 0), signed(1, 1, 121)], -1)


class At(unittest.TestCase):
    # Hand 0 puts and says hello; hand 1 hears of both, moves the mark (and bears 2, 0), and hand 0 hears of that and
    # drops it (and bears 2, 1).
    BEFORE = tell(tell([hands(2, 9), put(0, 0, 3, 1), hello(0)], 0, 1) + [move(1, 0, 0, 4, 6)], 1, 0) + [drop(0, 0, 0)]

    def test_older_knowledge(self):
        for row, marks in (((0, 0), []), ((1, 0), [(0, 0, 0, 3, 1)]), ((2, 0), [(0, 0, 0, 3, 1)]),
                           ((2, 1), [(0, 0, 4, 6, 1)]), ((3, 1), [])):
            with self.subTest(row=row):
                self.assertEqual(shown(self.BEFORE, at(0, *row)), marks)

    def test_how_it_is_told(self):
        self.assertEqual(last(self.BEFORE + [at(0, 2, 1)]), [0, 1, 0, 0, 4, 6, 1])
        self.assertEqual(last(self.BEFORE + [at(1, 0, 0)]), [0, 0])

    def test_not_all_of_it_is_known(self):
        refused(self, self.BEFORE, [at(0, 4, 1), at(0, 3, 2), at(0, 120, 120), at(1, 3, 1), at(1, 2, 2)], -4)

    def test_another_hand_may_know_it(self):
        self.assertEqual(shown(tell(self.BEFORE, 0, 1), at(1, 3, 1)), [])

    def test_what_waits_is_not_known(self):
        before = [hands(2, 9), hello(0), hello(0), send(0, 1), deliver(1)]
        refused(self, before, [at(1, 2, 0), at(1, 1, 0)], -4)

    def test_not_closed(self):
        refused(self, self.BEFORE, [at(0, 0, 1), at(0, 1, 1), at(0, 3, 0), at(1, 0, 1), at(1, 1, 1)], -7)

    def test_not_closed_by_a_hand_s_last_doing_alone(self):
        before = tell(tell([hands(2, 9), hello(1), hello(0)], 1, 0) + [hello(0)], 0, 1)
        self.assertEqual(ask(before + [at(1, 1, 0), at(1, 2, 0), at(1, 2, 1)])[-3:], [[0, 0], [-7], [0, 0]])

    def test_not_closed_by_a_third_hand(self):
        before = tell([hands(3, 9), hello(2)], 2, 1)
        before = tell(before + [hello(1)], 1, 0)
        self.assertEqual(ask(before + [at(0, 0, 1, 0), at(0, 0, 0, 1), at(0, 0, 1, 1)])[-3:], [[-7], [0, 0], [0, 0]])

    def test_missing_before_not_closed(self):
        # Of each one part is not known and another bears what is not in it.
        refused(self, self.BEFORE, [at(0, 0, 2), at(0, 4, 0), at(1, 3, 0), at(0, 120, 0), at(0, 0, 120)], -4)

    def test_range_before_missing_and_not_closed(self):
        refused(self, self.BEFORE, [at(0, 121, 0), at(0, -1, 1), at(0, 0, 121), at(2, 0, 1), at(-1, 120, 0),
                                    at(0, 3, 0, 0), at(0, 120), at(2, 120, 120)], -1)

    def test_a_list_that_is_not_as_told(self):
        wrong = [at(0), at(0, 0), at(0, 0, 0, 0), at(0, *[0] * 10), at(0, 2, 1, 0, 0, 0), at(0, -1, 0), at(0, 0, -1),
                 at(0, 121, 0), at(0, FAR, 0), at(0, 0, -FAR), at(0, *[FAR] * 10), at(0, *[-FAR] * 9)]
        refused(self, self.BEFORE, wrong, -1)
        refused(self, [hands(1, 9)], [at(0), at(0, 0, 0), at(0, *[0] * 10)], -1)
        refused(self, [hands(5, 9)], [at(0), at(0, 0, 0, 0, 0), at(0, *[0] * 6), at(0, *[0] * 10)], -1)

    def test_a_hand_that_is_none(self):
        refused(self, self.BEFORE, [at(c, 0, 0) for c in (2, -1, FAR, -FAR)], -1)

    def test_one_hand_and_five(self):
        self.assertEqual(last([hands(1, 9), at(0, 0)]), [0, 0])
        self.assertEqual(last([hands(5, 9), put(4, 1, 2, 3), at(4, 0, 0, 0, 0, 1)]), [0, 1, 4, 0, 1, 2, 3])

    def test_0_and_120(self):
        before = [hands(2, 9), put(1, 0, 1, 5)] + [hello(1)] * 118 + [label(1, 1, 0, 6)]
        self.assertEqual(shown(before, at(1, 0, 120)), [(1, 0, 0, 1, 6)])
        self.assertEqual(shown(before, at(1, 0, 119)), [(1, 0, 0, 1, 5)])
        self.assertEqual(shown(before, at(1, 0, 0)), [])
        refused(self, before, [at(0, 0, 120), at(1, 120, 0), at(1, 1, 120)], -4)
        refused(self, before, [at(1, 0, 121)], -1)

    def test_backs_in_older_knowledge(self):
        before = [hands(1, 9), put(0, 0, 3, 1), back(0, 0), back(0, 1), back(0, 2)]
        found = [shown(before, at(0, many)) for many in range(5)]
        self.assertEqual(found, [[], [(0, 0, 0, 3, 1)], [], [(0, 0, 0, 3, 1)], []])

    def test_the_row_is_read_to_its_end(self):
        for size in range(11):
            with self.subTest(size=size):
                self.assertEqual(ask([hands(3, 9), at(0, *[0] * size), known(0)])[1:],
                                 [[0, 0] if size == 3 else [-1], [0, 0, 0, 0, 0]])


class TheMark(unittest.TestCase):
    def test_of_its_put_alone(self):
        self.assertEqual(last([hands(1, 9), hello(0), put(0, 2, 5, 7), mark(0, 0, 1)]), [0, 2, 5, 7, 0, 1, 0, 1])

    def test_stretch_and_label_of_several_hands(self):
        self.assertEqual(last(MOVED + [mark(0, 0, 0)]), [0, 3, 7, 6, 0, 1, 0, 2])
        self.assertEqual(last(MOVED + [mark(1, 0, 0)]), [0, 2, 6, 1, 0, 0, 0, 0])
        self.assertEqual(last(MOVED + [mark(2, 0, 0)]), [0, 4, 8, 5, 2, 1, 2, 0])
        self.assertEqual(last(HEARD + [mark(1, 0, 0)]), [0, 4, 8, 6, 2, 1, 0, 2])

    def test_stretch_first_then_label(self):
        before = [hands(1, 9), put(0, 2, 5, 7), move(0, 0, 0, 1, 2), label(0, 0, 0, 3)]
        self.assertEqual(last(before + [mark(0, 0, 0)]), [0, 1, 2, 3, 0, 1, 0, 2])
        self.assertEqual(last(before[:-1] + [mark(0, 0, 0)]), [0, 1, 2, 7, 0, 1, 0, 0])

    def test_a_move_to_the_same_stretch_gives_it(self):
        before = [hands(1, 9), put(0, 2, 5, 7), move(0, 0, 0, 2, 5), label(0, 0, 0, 7)]
        self.assertEqual(last(before + [mark(0, 0, 0)]), [0, 2, 5, 7, 0, 1, 0, 2])

    def test_a_back_gives_it_to_the_one_before(self):
        before = [hands(1, 9), put(0, 2, 5, 7), move(0, 0, 0, 1, 2), move(0, 0, 0, 3, 4), back(0, 2)]
        self.assertEqual(last(before + [mark(0, 0, 0)]), [0, 1, 2, 7, 0, 1, 0, 0])
        self.assertEqual(last(before + [back(0, 1), mark(0, 0, 0)]), [0, 2, 5, 7, 0, 0, 0, 0])
        self.assertEqual(last(before + [back(0, 3), mark(0, 0, 0)]), [0, 3, 4, 7, 0, 2, 0, 0])

    def test_each_of_several(self):
        before = [hands(1, 9), put(0, 2, 5, 7), put(0, 2, 5, 7), move(0, 0, 1, 1, 2)]
        self.assertEqual(last(before + [mark(0, 0, 0)]), [0, 2, 5, 7, 0, 0, 0, 0])
        self.assertEqual(last(before + [mark(0, 0, 1)]), [0, 1, 2, 7, 0, 2, 0, 1])

    def test_there_is_none(self):
        before = [hands(2, 9), put(0, 2, 5, 7), move(0, 0, 0, 1, 2), put(0, 1, 2, 3), drop(0, 0, 2), put(0, 1, 2, 3),
                  back(0, 4), sign(0)]
        self.assertEqual(last(before + [mark(0, 0, 0)])[0], 0)
        refused(self, before, [mark(0, 0, k) for k in (1, 2, 3, 4, 5, 6, 7, 120)], -4)
        refused(self, before, [mark(0, 1, 0), mark(0, 1, 120), mark(1, 0, 0), mark(1, 1, 0)], -4)

    def test_out_of_range(self):
        wrong = [mark(*told) for told in ((2, 0, 0), (-1, 0, 0), (FAR, 0, 0), (-FAR, 0, 0), (0, 2, 0), (0, -1, 0),
                                          (0, FAR, 0), (0, -FAR, 0), (0, 0, -1), (0, 0, 121), (0, 0, FAR),
                                          (0, 0, -FAR))]
        refused(self, [hands(2, 9), put(0, 0, 1, 1)], wrong, -1)
        refused(self, [hands(2, 9)], [mark(0, 0, 121), mark(1, 2, 0), mark(2, 1, 0)], -1)

    def test_five_hands(self):
        before = tell([hands(5, 9), put(4, 2, 5, 7)], 4, 0) + [label(0, 4, 0, 1)]
        self.assertEqual(last(before + [mark(0, 4, 0)]), [0, 2, 5, 1, 4, 0, 0, 0])
        self.assertEqual(last(before + [mark(4, 4, 0)]), [0, 2, 5, 7, 4, 0, 4, 0])


class Overlaps(unittest.TestCase):
    def pairs(self, *stretches):
        before = [hands(1, 1000)] + [put(0, a, b, x) for a, b, x in stretches]
        found = last(before + [overlaps(0)])
        self.assertEqual((found[0], len(found)), (0, 2 + 4 * found[1]))
        return [(found[place + 1], found[place + 3]) for place in range(2, len(found), 4)]

    def test_none(self):
        for n in (1, 5):
            self.assertEqual(last([hands(n, 9), overlaps(n - 1)]), [0, 0])
        self.assertEqual(last([hands(1, 9), put(0, 0, 9, 1), overlaps(0)]), [0, 0])

    def test_one_label_and_two(self):
        self.assertEqual(self.pairs((0, 5, 1), (3, 9, 1)), [(0, 1)])
        self.assertEqual(self.pairs((0, 5, 1), (3, 9, 2)), [])

    def test_those_that_touch_only(self):
        self.assertEqual(self.pairs((0, 5, 1), (5, 9, 1)), [])
        self.assertEqual(self.pairs((5, 9, 1), (0, 5, 1)), [])
        self.assertEqual(self.pairs((0, 5, 1), (4, 9, 1)), [(0, 1)])
        self.assertEqual(self.pairs((0, 5, 1), (6, 9, 1)), [])

    def test_equal_ones(self):
        self.assertEqual(self.pairs((2, 3, 1), (2, 3, 1)), [(0, 1)])
        self.assertEqual(self.pairs((2, 3, 1), (2, 3, 0)), [])

    def test_one_within_another(self):
        self.assertEqual(self.pairs((0, 9, 4), (3, 4, 4)), [(0, 1)])
        self.assertEqual(self.pairs((3, 4, 4), (0, 9, 4)), [(1, 0)])

    def test_the_one_before_in_the_view_comes_first(self):
        self.assertEqual(self.pairs((5, 9, 1), (4, 6, 1)), [(1, 0)])
        self.assertEqual(self.pairs((4, 9, 1), (4, 6, 1)), [(1, 0)])

    def test_by_the_first_then_the_second(self):
        self.assertEqual(self.pairs((6, 9, 1), (2, 7, 1), (0, 8, 1), (3, 4, 2), (0, 1, 1)),
                         [(4, 2), (2, 1), (2, 0), (1, 0)])

    def test_one_in_between_of_another_label(self):
        self.assertEqual(self.pairs((0, 5, 1), (1, 4, 2), (2, 6, 1), (3, 6, 2)), [(0, 2), (1, 3)])

    def test_a_long_one_reaches_over_those_that_are_past(self):
        self.assertEqual(self.pairs((0, 1000, 1), (1, 2, 1), (3, 4, 1), (999, 1000, 1)), [(0, 1), (0, 2), (0, 3)])

    def test_hands_and_numbers(self):
        before = tell([hands(3, 9), hello(2), put(2, 1, 4, 5)], 2, 1) + [put(1, 0, 2, 5), put(1, 3, 6, 5)]
        self.assertEqual(last(before + [overlaps(1)]), [0, 2, 1, 0, 2, 1, 2, 1, 1, 1])
        self.assertEqual(last(before + [overlaps(2)]), [0, 0])

    def test_stretch_and_label_are_those_of_the_view(self):
        before = [hands(1, 9), put(0, 0, 3, 1), put(0, 2, 5, 1), put(0, 2, 5, 2)]
        self.assertEqual(last(before + [overlaps(0)]), [0, 1, 0, 0, 0, 1])
        self.assertEqual(last(before + [move(0, 0, 1, 3, 5), overlaps(0)]), [0, 0])
        self.assertEqual(last(before + [label(0, 0, 1, 2), overlaps(0)]), [0, 1, 0, 1, 0, 2])
        self.assertEqual(last(before + [drop(0, 0, 0), overlaps(0)]), [0, 0])
        self.assertEqual(last(before + [drop(0, 0, 0), back(0, 3), overlaps(0)]), [0, 1, 0, 0, 0, 1])

    def test_120_marks(self):
        pairs = self.pairs(*[(0, 1, 9)] * 120)
        self.assertEqual(pairs, [(one, other) for one in range(120) for other in range(one + 1, 120)])

    def test_out_of_range(self):
        refused(self, HEARD, [overlaps(c) for c in (-1, 3, 5, FAR, -FAR)], -1)


class Differ(unittest.TestCase):
    SAME = tell([hands(2, 9), put(0, 0, 3, 1), put(0, 4, 6, 2)], 0, 1)

    def test_both_know_the_same(self):
        self.assertEqual(last([hands(2, 9), differ(0, 1)]), [0, 1, 0, 0])
        self.assertEqual(last(self.SAME + [differ(0, 1)]), [0, 1, 0, 0])
        self.assertEqual(last(self.SAME + [differ(1, 0)]), [0, 1, 0, 0])

    def test_a_hand_with_itself(self):
        self.assertEqual(last([hands(1, 9), differ(0, 0)]), [0, 1, 0, 0])
        self.assertEqual(last([hands(5, 9), put(4, 0, 1, 2), differ(4, 4)]), [0, 1, 0, 0])

    def test_by_a_mark(self):
        before = self.SAME + [put(1, 7, 8, 3)]
        self.assertEqual(last(before + [differ(0, 1)]), [0, 0, 0, 1, 1, 0, 7, 8, 3])
        self.assertEqual(last(before + [differ(1, 0)]), [0, 0, 1, 1, 0, 7, 8, 3, 0])

    def test_by_a_stretch(self):
        before = self.SAME + [move(1, 0, 0, 0, 4)]
        self.assertEqual(last(before + [differ(0, 1)]), [0, 0, 1, 0, 0, 0, 3, 1, 1, 0, 0, 0, 4, 1])
        before = self.SAME + [move(1, 0, 0, 1, 3)]
        self.assertEqual(last(before + [differ(0, 1)]), [0, 0, 1, 0, 0, 0, 3, 1, 1, 0, 0, 1, 3, 1])

    def test_by_a_label(self):
        before = self.SAME + [label(0, 0, 1, 9)]
        self.assertEqual(last(before + [differ(0, 1)]), [0, 0, 1, 0, 1, 4, 6, 9, 1, 0, 1, 4, 6, 2])

    def test_by_a_name_alone(self):
        before = [hands(2, 9), put(0, 0, 3, 1), put(1, 0, 3, 1)]
        self.assertEqual(last(before + [differ(0, 1)]), [0, 0, 1, 0, 0, 0, 3, 1, 1, 1, 0, 0, 3, 1])

    def test_different_knowledge_that_shows_the_same(self):
        self.assertEqual(last(self.SAME + [hello(1), differ(0, 1)]), [0, 0, 0, 0])
        before = self.SAME + [move(0, 0, 0, 0, 3), label(1, 0, 1, 2)]
        self.assertEqual(last(before + [differ(0, 1)]), [0, 0, 0, 0])

    def test_as_many_doings_of_other_hands_are_not_the_same(self):
        self.assertEqual(last([hands(2, 9), hello(0), hello(1), differ(0, 1)]), [0, 0, 0, 0])

    def test_what_waits_is_not_known(self):
        before = [hands(2, 9), hello(0), put(0, 0, 1, 1), send(0, 1), deliver(1)]
        self.assertEqual(last(before + [differ(0, 1)]), [0, 0, 1, 0, 1, 0, 1, 1, 0])
        self.assertEqual(last(before + [deliver(0), differ(0, 1)]), [0, 1, 0, 0])

    def test_several_in_the_view_s_order(self):
        before = self.SAME + [put(0, 0, 2, 5), drop(0, 0, 1), put(1, 8, 9, 0), put(1, 1, 2, 0), label(1, 0, 0, 0)]
        self.assertEqual(last(before + [differ(0, 1)]), [
            0, 0,
            2, 0, 2, 0, 2, 5, 0, 0, 0, 3, 1,
            4, 0, 0, 0, 3, 0, 1, 1, 1, 2, 0, 0, 1, 4, 6, 2, 1, 0, 8, 9, 0])

    def test_what_was_lost_and_sent_again(self):
        before = [hands(2, 9), put(0, 0, 3, 1), send(0, 1), lose(0)]
        self.assertEqual(last(before + [differ(1, 0)]), [0, 0, 0, 1, 0, 0, 0, 3, 1])
        self.assertEqual(last(tell(before, 0, 1) + [differ(1, 0)]), [0, 1, 0, 0])

    def test_out_of_range(self):
        wrong = [differ(*told) for c in (2, -1, 5, FAR, -FAR) for told in ((c, 0), (0, c), (c, c))]
        refused(self, self.SAME, wrong, -1)
        refused(self, [hands(1, 9)], [differ(0, 1), differ(1, 0), differ(1, 1)], -1)


if __name__ == "__main__":
    unittest.main()
