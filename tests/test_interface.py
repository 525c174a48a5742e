"""The form of the interface: how calls are handed in and answers given back."""

import unittest

from helper import (
    BIGGEST, CAN_SERVE_ALL, CREATE, CUT_PLAN, LEFTOVERS, MAX_SERVED, PRIORITY_AMOUNTS, STATUS,
    WORST_SET, add_lot, add_order, ask, ask_on, can_serve, flat, gain_of_lot, get_lot, get_order,
    max_served_with_lot, max_served_with_order, probes, remove_order, set_accepted_lots,
    set_lot_area, set_order_area, shortage, stock_calls, swap_priorities,
)
from lotcutter.desk import answers

EXAMPLE = [
    0,
    1, 10,
    1, 6,
    2, 8, 3,
    2, 7, 1,
    2, 4, 2,
    9,
    10,
    13,
    14,
    15,
    12, 3, 5, 7, 4,
    19, 1,
    2, 5, 4,
]
EXAMPLE_ANSWERS = [
    1, 0,
    1, 0,
    1, 1,
    1, 0,
    1, 1,
    1, 2,
    1, 16,
    5, 3, 3, 0, 1, 2,
    4, 3, 8, 7, 1,
    7, 16, 3, 5, 7, 0, 0, 1,
    3, 2, 0, 0,
    1, 1,
    1, 1,
    1, -22,
]

# Each call but create, with arguments that are right on some stock and with
# some that are wrong on each.
CALLS_ON_A_STOCK = [
    add_lot(0), add_lot(40), add_lot(41), add_lot(BIGGEST),
    add_order(1, 0), add_order(40, 0), add_order(0, 0), add_order(41, 1), add_order(0, BIGGEST),
    remove_order(0), remove_order(6), remove_order(BIGGEST),
    get_order(0), get_order(6), get_order(BIGGEST),
    get_lot(0), get_lot(6), get_lot(BIGGEST),
    set_lot_area(0, 0), set_lot_area(0, 41), set_lot_area(BIGGEST, BIGGEST),
    set_accepted_lots(0, 0), set_accepted_lots(0, 64), set_accepted_lots(BIGGEST, BIGGEST),
    set_order_area(0, 1), set_order_area(0, 0), set_order_area(BIGGEST, BIGGEST),
    MAX_SERVED,
    WORST_SET,
]
MORE_CALLS_ON_A_STOCK = [
    shortage(0), shortage(64), shortage(BIGGEST),
    can_serve([]), can_serve([0]), can_serve([100]), can_serve([BIGGEST]),
    can_serve([0] * 8), can_serve([100] * 8), can_serve([BIGGEST] * 8),
    PRIORITY_AMOUNTS,
    CUT_PLAN,
    LEFTOVERS,
    CAN_SERVE_ALL,
    max_served_with_lot(0, 0), max_served_with_lot(0, 41), max_served_with_lot(BIGGEST, BIGGEST),
    max_served_with_order(1, 0), max_served_with_order(0, 0), max_served_with_order(BIGGEST, BIGGEST),
    gain_of_lot(0), gain_of_lot(6), gain_of_lot(BIGGEST),
    swap_priorities(0, 0), swap_priorities(0, 6), swap_priorities(BIGGEST, BIGGEST),
    STATUS,
]
# The example, and behind it each call that it lacks.
EVERY_CALL = EXAMPLE + [
    3, 1, 4, 0, 5, 1, 6, 1, 7, 7, 0, 1, 8, 0, 9, 11, 3, 16, 17, 0, 40, 18, 40, 3, 20, 0, 1, 21,
]
EVERY_CALLS_ANSWERS = EXAMPLE_ANSWERS + [
    1, 2,
    2, 8, 3,
    1, 6,
    1, 6,
    1, 3,
    1, 8,
    3, 0, 13, 17,
    1, 1,
    1, 13,
    1, 17,
    1, 0,
    4, 2, 2, 17, 13,
]
EMPTY_STOCK = [[-2], [-2], [0], [0, 0], [0], [0, 0, 0, 0]]


class WatchedList(list):
    """A list that refuses every change, one that is taken back later too."""

    def refuse(self, *numbers, **named):
        raise AssertionError("what was handed in was changed")

    append = extend = insert = pop = remove = clear = sort = reverse = refuse
    __setitem__ = __delitem__ = __iadd__ = __imul__ = refuse


class Example(unittest.TestCase):
    def test_the_documents_example(self):
        self.assertEqual(answers(EXAMPLE), EXAMPLE_ANSWERS)


class Form(unittest.TestCase):
    def test_one_call(self):
        self.assertEqual(answers([0]), [1, 0])
        self.assertEqual(answers([9]), [1, -11])

    def test_answers_are_counted_then_told(self):
        calls = [0, 1, 5, 2, 9, 1, 4, 0, 5, 0, 10, 9, 4, 1]
        told = [1, 0, 1, 0, 1, 0, 2, 9, 1, 1, 5, 3, 4, 1, 0, 1, 5, 1, -2]
        self.assertEqual(answers(calls), told)

    def test_whole_numbers_alone(self):
        given = answers(EXAMPLE)
        self.assertIs(type(given), list)
        self.assertEqual([number for number in given if type(number) is not int], [])

    def test_an_argument_is_not_taken_for_a_call(self):
        # Each argument here is also the number of a call.
        calls = [CREATE, add_lot(10), add_lot(9), add_order(9, 2), add_order(10, 1), get_lot(1)]
        self.assertEqual(ask(calls), [[0], [0], [1], [0], [1], [9]])

    def test_every_call(self):
        self.assertEqual(answers(EVERY_CALL), EVERY_CALLS_ANSWERS)

    def test_what_is_handed_in_stays(self):
        calls = list(EVERY_CALL)
        answers(calls)
        self.assertEqual(calls, EVERY_CALL)

    def test_what_is_handed_in_is_not_changed_for_a_while(self):
        self.assertEqual(answers(WatchedList(EVERY_CALL)), EVERY_CALLS_ANSWERS)


class NothingKept(unittest.TestCase):
    def test_the_same_answers_again(self):
        self.assertEqual(answers(EVERY_CALL), EVERY_CALLS_ANSWERS)
        self.assertEqual(answers(EVERY_CALL), EVERY_CALLS_ANSWERS)

    def test_no_stock_from_the_list_before(self):
        answers(EVERY_CALL)
        self.assertEqual(answers([9]), [1, -11])
        self.assertEqual(answers([5, 0]), [1, -11])
        self.assertEqual(answers([14]), [1, -11])

    def test_no_lots_or_orders_from_the_list_before(self):
        answers(EVERY_CALL)
        self.assertEqual(answers([0, 5, 0, 4, 0, 9]), [1, 0, 1, -2, 1, -2, 1, 0])
        self.assertEqual(answers([0, 13, 15, 21]), [1, 0, 1, 0, 1, 0, 4, 0, 0, 0, 0])

    def test_what_was_given_back_may_be_changed(self):
        given = answers(EVERY_CALL)
        given.clear()
        self.assertEqual(answers(EVERY_CALL), EVERY_CALLS_ANSWERS)


class NoStock(unittest.TestCase):
    def test_each_call_ahead_of_any_create(self):
        for call in CALLS_ON_A_STOCK + MORE_CALLS_ON_A_STOCK:
            with self.subTest(call=call):
                self.assertEqual(answers(call), [1, -11])

    def test_all_of_them_then_a_stock_that_knows_nothing_of_them(self):
        for calls in (CALLS_ON_A_STOCK, MORE_CALLS_ON_A_STOCK):
            told = [[-11]] * len(calls) + [[0]] + EMPTY_STOCK
            self.assertEqual(ask(calls + [CREATE] + probes(0, 0)), told)

    def test_the_call_behind_a_list_of_amounts_is_read_from_its_right_place(self):
        # Each number in these lists is also the number of a call, create among them.
        for amounts in ([], [0], [9], [12], [21], [0, 9, 12, 21, 0, 0, 13, 1], [0] * 8, [BIGGEST] * 8):
            with self.subTest(amounts=amounts):
                calls = [can_serve(amounts), MAX_SERVED, can_serve(amounts), CREATE, STATUS]
                self.assertEqual(ask(calls), [[-11], [-11], [-11], [0], [0, 0, 0, 0]])


class AmountLists(unittest.TestCase):
    """Where the next call begins does not depend on what a list of amounts is answered with."""

    def test_lists_of_each_length(self):
        for order_count in range(7):
            for length in range(9):
                with self.subTest(order_count=order_count, length=length):
                    calls = [can_serve([0] * length), STATUS, can_serve([21] * length), STATUS]
                    given = ask_on([40] * 6, [(1, 63)] * order_count, calls)
                    status = [6, order_count, 240, order_count]
                    told = [1] if length == order_count else [-22]
                    self.assertEqual(given, [told, status, told, status])

    def test_a_list_at_the_end(self):
        self.assertEqual(answers([0, 12, 0]), [1, 0, 1, 1])
        self.assertEqual(answers([0, 12, 1, 0]), [1, 0, 1, -22])


class CreateAgain(unittest.TestCase):
    def test_the_new_stock_is_empty(self):
        orders = [(8, 3), (7, 1), (4, 2)]
        given = ask_on([10, 6], orders, [CREATE] + probes(0, 0))
        self.assertEqual(given, [[0]] + EMPTY_STOCK)

    def test_numbers_begin_at_0_again(self):
        calls = [CREATE, add_order(3, 1), add_lot(7), add_order(3, 1), get_lot(0), get_order(0)]
        given = ask_on([10, 6], [(8, 3)], calls)
        self.assertEqual(given, [[0], [-22], [0], [0], [7], [3, 1]])

    def test_a_full_stock_gives_way_too(self):
        calls = [add_lot(1), add_order(1, 0), CREATE, add_lot(1), add_order(1, 1)]
        given = ask_on([1] * 6, [(1, 1)] * 6, calls)
        self.assertEqual(given, [[-28], [-28], [0], [0], [0]])

    def test_create_twice_at_once(self):
        self.assertEqual(ask([CREATE, CREATE, MAX_SERVED]), [[0], [0], [0]])


class LongestLists(unittest.TestCase):
    def test_sixty_worst_sets(self):
        start = stock_calls([0] * 6, [(40, 63)] * 6)
        asked = 60 - len(start)
        given = ask(start + [WORST_SET] * asked)
        self.assertEqual(given[len(start):], [[240, 6, 0, 1, 2, 3, 4, 5]] * asked)

    def test_sixty_calls_of_three_numbers(self):
        calls = flat([add_order(BIGGEST, BIGGEST)] * 60)
        self.assertEqual(len(calls), 180)
        self.assertEqual(answers(calls), [1, -11] * 60)

    def test_sixty_calls_of_ten_numbers(self):
        calls = flat([can_serve([BIGGEST] * 8)] * 60)
        self.assertEqual(len(calls), 600)
        self.assertEqual(answers(calls), [1, -11] * 60)
        self.assertEqual(answers([0] + calls[:590]), [1, 0] + [1, -22] * 59)

    def test_the_same_priority_call_on_six_lots_and_six_orders(self):
        lot_areas = [37, 12, 40, 5, 28, 19]
        orders = [(33, 5), (40, 63), (21, 18), (38, 36), (17, 9), (40, 62)]
        start = stock_calls(lot_areas, orders)
        asked = 60 - len(start)
        for call in (PRIORITY_AMOUNTS, CUT_PLAN, LEFTOVERS):
            with self.subTest(call=call):
                once = ask_on(lot_areas, orders, [call])
                self.assertEqual(ask(start + [call] * asked)[len(start):], once * asked)

    def test_priority_calls_by_turns_on_six_lots_and_six_orders(self):
        start = stock_calls([40] * 6, [(40, 63)] * 6)
        turn = [CUT_PLAN, LEFTOVERS, PRIORITY_AMOUNTS, can_serve([40] * 6), CAN_SERVE_ALL]
        plan = [40 if lot == order else 0 for order in range(6) for lot in range(6)]
        told = [[240] + plan, [6] + [0] * 6, [6] + [40] * 6, [1], [1]]
        self.assertEqual(ask(start + turn * 9)[len(start):], told * 9)

    def test_sixty_creates(self):
        self.assertEqual(answers([0] * 60), [1, 0] * 60)

    def test_sixty_calls_that_make_change_and_ask(self):
        start = stock_calls([20] * 6, [(25, 63)] * 6)
        changes = [set_order_area(0, area) for area in range(1, 41)]
        asked = 60 - len(start) - len(changes)
        given = ask(start + changes + [MAX_SERVED] * asked)
        self.assertEqual(given[len(start):53], [[25]] + [[area] for area in range(1, 40)])
        self.assertEqual(given[53:], [[120]] * 7)


if __name__ == "__main__":
    unittest.main()
