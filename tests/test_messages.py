"""send, deliver, lose, double: the line by which the hands hear of one another."""

import unittest

from helper import FAR, ask, deliver, double, hands, hello, last, lose, put, run, send, sign, state, tell


class Send(unittest.TestCase):
    def test_all_that_the_copy_lacks_for_the_hand(self):
        before = [hands(2, 9), hello(0), hello(0), hello(0)]
        self.assertEqual(last(before + [send(0, 1)]), [0, 3])
        self.assertEqual(run(before + [send(0, 1)]).bag, [(1, 0, 0), (1, 0, 1), (1, 0, 2)])

    def test_nothing_to_send(self):
        self.assertEqual(last([hands(2, 9), send(0, 1)]), [0, 0])
        self.assertEqual(last([hands(2, 9), hello(1), send(0, 1)]), [0, 0])

    def test_it_is_put_behind_the_others(self):
        line = run([hands(3, 9), hello(2), hello(0), send(2, 1), send(0, 1), send(0, 2)])
        self.assertEqual(line.bag, [(1, 2, 0), (1, 0, 0), (2, 0, 0)])

    def test_all_is_sent_again_until_the_hand_surely_knows(self):
        before = tell([hands(2, 9), hello(0), hello(0)], 0, 1)
        self.assertEqual(last(before + [send(0, 1)]), [0, 2])
        before = tell(before + [hello(1)], 1, 0)
        self.assertEqual(last(before + [send(0, 1)]), [0, 0])
        self.assertEqual(last(before + [hello(0), send(0, 1)]), [0, 1])

    def test_what_was_done_before_hearing_does_not_tell_that_it_was_heard(self):
        before = tell([hands(2, 9), hello(0), hello(1)], 0, 1)
        before = tell(before, 1, 0)
        self.assertEqual(last(before + [send(0, 1)]), [0, 1])

    def test_what_was_heard_is_told_on_by_hands_then_numbers(self):
        before = tell([hands(3, 9), hello(2), hello(2), hello(0), hello(1)], 2, 1)
        before = tell(before, 0, 1)
        line = run(before + [send(1, 0)])
        self.assertEqual(line.bag, [(0, 1, 0), (0, 2, 0), (0, 2, 1)])
        line = run(before + [send(1, 2)])
        self.assertEqual(line.bag, [(2, 0, 0), (2, 1, 0)])

    def test_what_waits_is_not_sent_on(self):
        before = [hands(3, 9), hello(0), hello(0), send(0, 1), lose(0), deliver(0)]
        self.assertEqual(ask(before)[-1], [0, 0, 1])
        self.assertEqual(last(before + [send(1, 2)]), [0, 0])

    def test_out_of_range(self):
        before = [hands(2, 9), hello(0)]
        plain = state(run(before))
        for call in (send(2, 0), send(0, 2), send(-1, 0), send(0, -1), send(0, 0), send(1, 1), send(FAR, 0),
                     send(-FAR, 0), send(0, FAR), send(0, -FAR)):
            with self.subTest(call=call):
                self.assertEqual(ask(before + [call])[-1], [-1])
                self.assertEqual(state(run(before + [call])), plain)

    def test_a_hand_alone_has_no_other(self):
        self.assertEqual(last([hands(1, 9), send(0, 0)]), [-1])
        self.assertEqual(last([hands(1, 9), send(0, 1)]), [-1])

    def test_five_hands(self):
        self.assertEqual(last([hands(5, 9), hello(4), send(4, 3)]), [0, 1])


class Deliver(unittest.TestCase):
    def test_in_order(self):
        found = ask([hands(2, 9), hello(0), hello(0), send(0, 1), deliver(0), deliver(0)])
        self.assertEqual(found[4:], [[0, 1, 0], [0, 1, 0]])

    def test_out_of_order_several_become_known_at_one_delivery(self):
        before = [hands(2, 9), hello(0), hello(0), hello(0), send(0, 1)]
        found = ask(before + [deliver(2), deliver(1), deliver(0), deliver(0)])
        self.assertEqual(found[5:], [[0, 0, 1], [0, 0, 2], [0, 3, 0], [-1]])

    def test_a_gap_keeps_the_rest_waiting(self):
        before = [hands(2, 9)] + [hello(0)] * 4 + [send(0, 1)]
        found = ask(before + [deliver(3), deliver(2), deliver(0), deliver(0)])
        self.assertEqual(found[6:], [[0, 0, 1], [0, 0, 2], [0, 1, 2], [0, 3, 0]])

    def test_what_waits_stays_in_the_order_in_which_it_came(self):
        before = [hands(2, 9)] + [hello(0)] * 5 + [send(0, 1), deliver(4), deliver(2), deliver(2)]
        self.assertEqual(run(before).waiting, [[], [(0, 4), (0, 2), (0, 3)]])
        self.assertEqual(run(before + [deliver(0)]).waiting, [[], [(0, 4), (0, 2), (0, 3)]])
        self.assertEqual(run(before + [deliver(0), deliver(0)]).waiting, [[], []])

    def test_it_waits_until_all_that_it_bears_is_known(self):
        before = tell([hands(3, 9), hello(0), hello(0)], 0, 1) + [hello(1), send(1, 2)]
        found = ask(before + [deliver(2), deliver(1), deliver(0)])
        self.assertEqual(found[-3:], [[0, 0, 1], [0, 0, 2], [0, 3, 0]])
        self.assertEqual(run(before + [deliver(2), deliver(1), deliver(0)]).known[2], [2, 1, 0])

    def test_it_is_its_hand_s_next_but_bears_more(self):
        before = tell([hands(3, 9), hello(0), hello(1)], 0, 1) + [hello(1), send(1, 2)]
        self.assertEqual(run(before).bag, [(2, 0, 0), (2, 1, 0), (2, 1, 1)])
        self.assertEqual(ask(before + [deliver(1), deliver(1), deliver(0)])[-3:], [[0, 1, 0], [0, 0, 1], [0, 2, 0]])

    def test_waiting_ones_of_several_hands(self):
        before = tell([hands(4, 9), hello(0)], 0, 1) + [hello(1)]
        before = tell(before, 1, 2) + [hello(2), send(2, 3)]
        found = ask(before + [deliver(2), deliver(1), deliver(0)])
        self.assertEqual(found[-3:], [[0, 0, 1], [0, 0, 2], [0, 3, 0]])

    def test_twice(self):
        before = [hands(2, 9), hello(0), send(0, 1), double(0), deliver(0)]
        self.assertEqual(last(before), [0, 1, 0])
        line = run(before)
        again = run(before + [deliver(0)])
        self.assertEqual(last(before + [deliver(0)]), [0, 0, 0])
        self.assertEqual(again.bag, [])
        self.assertEqual((again.known, again.waiting), (line.known, line.waiting))

    def test_twice_while_it_waits(self):
        before = [hands(2, 9), hello(0), hello(0), send(0, 1), double(1), deliver(1), deliver(1)]
        self.assertEqual(ask(before)[-2:], [[0, 0, 1], [0, 0, 1]])
        self.assertEqual(ask(before + [deliver(0), deliver(0)])[-2:], [[0, 2, 0], [-1]])

    def test_known_ones_leave_what_waits(self):
        before = [hands(2, 9)] + [hello(0)] * 3 + [send(0, 1), double(0), deliver(0), deliver(1)]
        self.assertEqual(ask(before + [deliver(1)])[-3:], [[0, 1, 0], [0, 0, 1], [0, 0, 1]])

    def test_a_hand_is_not_sent_its_own_doings(self):
        before = tell([hands(3, 9), hello(0)], 0, 1)
        self.assertEqual(ask(before + [send(1, 2), send(1, 0)])[-2:], [[0, 1], [0, 0]])

    def test_copies_wait_apart(self):
        before = [hands(3, 9), hello(0), hello(0), send(0, 1), send(0, 2), deliver(1), deliver(2)]
        self.assertEqual(ask(before)[-2:], [[0, 0, 1], [0, 0, 1]])
        self.assertEqual(run(before).waiting, [[], [(0, 1)], [(0, 1)]])
        self.assertEqual(last(before + [deliver(0)]), [0, 2, 0])
        self.assertEqual(run(before + [deliver(0)]).known, [[2, 0, 0], [2, 0, 0], [0, 0, 0]])

    def test_only_the_message_is_out_of_the_bag(self):
        before = [hands(2, 9), hello(0), hello(0), hello(0), send(0, 1)]
        self.assertEqual(run(before + [deliver(1)]).bag, [(1, 0, 0), (1, 0, 2)])

    def test_what_a_hand_hears_is_borne_by_what_it_does_next(self):
        before = tell([hands(2, 9), hello(0)], 0, 1)
        self.assertEqual(run(before + [hello(1)]).doings[1][0].bears, (1, 0))


class LoseAndDouble(unittest.TestCase):
    BEFORE = [hands(2, 9), hello(0), hello(0), hello(0), send(0, 1)]

    def test_lose(self):
        self.assertEqual(last(self.BEFORE + [lose(1)]), [0])
        line = run(self.BEFORE + [lose(1)])
        self.assertEqual(line.bag, [(1, 0, 0), (1, 0, 2)])
        self.assertEqual((line.known, line.waiting), ([[3, 0], [0, 0]], [[], []]))

    def test_what_was_lost_can_be_sent_again(self):
        self.assertEqual(ask(self.BEFORE + [lose(0)] * 3 + [send(0, 1), deliver(0)])[-2:], [[0, 3], [0, 1, 0]])

    def test_double(self):
        self.assertEqual(last(self.BEFORE + [double(1)]), [0])
        line = run(self.BEFORE + [double(1)])
        self.assertEqual(line.bag, [(1, 0, 0), (1, 0, 1), (1, 0, 2), (1, 0, 1)])
        self.assertEqual((line.known, line.waiting), ([[3, 0], [0, 0]], [[], []]))

    def test_places(self):
        for before in ([hands(2, 9)], self.BEFORE):
            many = len(run(before).bag)
            plain = state(run(before))
            for i in (-1, many, many + 1, FAR, -FAR, -many - 1):
                for call in (deliver(i), lose(i), double(i)):
                    with self.subTest(call=call):
                        self.assertEqual(ask(before + [call])[-1], [-1])
                        self.assertEqual(state(run(before + [call])), plain)
        for i in (0, 2):
            for call in (deliver(i), lose(i), double(i)):
                self.assertEqual(last(self.BEFORE + [call])[0], 0)


class FullBag(unittest.TestCase):
    SIXTY = [hands(2, 9)] + [hello(0)] * 60

    def refused(self, before, call):
        self.assertEqual(ask(before + [call])[-1], [-6])
        self.assertEqual(state(run(before + [call])), state(run(before)))

    def test_send_up_to_sixty_and_one_more(self):
        self.assertEqual(last(self.SIXTY + [send(0, 1)]), [0, 60])
        self.refused(self.SIXTY + [hello(0)], send(0, 1))

    def test_send_beside_what_is_there(self):
        before = [hands(3, 9)] + [hello(0)] * 30 + [send(0, 1)]
        self.assertEqual(last(before + [send(0, 2)]), [0, 30])
        self.refused(before + [hello(0)], send(0, 2))
        self.assertEqual(last(before + [hello(0), lose(0), send(0, 2)]), [0, 31])

    def test_sending_nothing_goes_with_a_full_bag(self):
        self.assertEqual(last(self.SIXTY + [send(0, 1), send(1, 0)]), [0, 0])

    def test_double_up_to_sixty_and_one_more(self):
        before = self.SIXTY + [send(0, 1), lose(0)]
        self.assertEqual(last(before + [double(58)]), [0])
        self.refused(before + [double(58)], double(0))
        self.refused(before + [double(58)], double(59))

    def test_a_place_out_of_range_counts_before_the_full_bag(self):
        self.assertEqual(last(self.SIXTY + [send(0, 1), double(60)]), [-1])
        self.assertEqual(last(self.SIXTY + [send(0, 1), send(0, 0)]), [-1])

    def test_the_bag_has_room_for_doings_whatever_it_holds(self):
        self.assertEqual(last(self.SIXTY + [send(0, 1), hello(0)]), [0, 60])
        self.assertEqual(last(self.SIXTY + [send(0, 1), deliver(0)]), [0, 1, 0])
        self.assertEqual(last(self.SIXTY + [send(0, 1), lose(59)]), [0])

    def test_many_doings_don_t_hinder_messages(self):
        before = [hands(2, 9)] + [hello(0)] * 60 + [sign(1)] * 60
        self.assertEqual(last(before + [put(0, 0, 1, 0)]), [-6])
        self.assertEqual(ask(before + [send(1, 0), deliver(0), double(0)])[-3:], [[0, 60], [0, 1, 0], [0]])

    def test_hands_empties_it(self):
        self.assertEqual(ask(self.SIXTY + [send(0, 1), hands(2, 9), lose(0)])[-1], [-1])


if __name__ == "__main__":
    unittest.main()
