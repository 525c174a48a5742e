"""Lots and orders: adding, removing, telling and changing them, and what a refused call leaves."""

import unittest

from helper import (
    BIGGEST, CREATE, MAX_SERVED, STATUS, add_lot, add_order, ask, ask_on, can_serve, gain_of_lot,
    get_lot, get_order, max_served_with_lot, max_served_with_order, probes, remove_order,
    set_accepted_lots, set_lot_area, set_order_area, shortage, swap_priorities,
)

LOTS = [10, 6, 0]
ORDERS = [(8, 3), (7, 1), (4, 2), (9, 0)]


def after(calls, lot_areas=LOTS, orders=ORDERS):
    """The answers of the calls, on a stock of three lots and four orders."""
    return ask_on(lot_areas, orders, calls)


class Create(unittest.TestCase):
    def test_answers_0(self):
        self.assertEqual(ask([CREATE]), [[0]])

    def test_there_is_nothing_at_first(self):
        self.assertEqual(ask([CREATE] + probes(0, 0)), [[0], [-2], [-2], [0], [0, 0], [0], [0, 0, 0, 0]])


class AddLot(unittest.TestCase):
    def test_numbers_go_up_from_0(self):
        calls = [CREATE] + [add_lot(area) for area in (3, 1, 4, 1, 5, 9)]
        self.assertEqual(ask(calls), [[0], [0], [1], [2], [3], [4], [5]])

    def test_areas_at_the_edges(self):
        calls = [add_lot(0), add_lot(40), add_lot(41), add_lot(BIGGEST), get_lot(0), get_lot(1), get_lot(2)]
        self.assertEqual(ask_on([], [], calls), [[0], [1], [-22], [-22], [0], [40], [-2]])

    def test_a_seventh_lot(self):
        calls = [add_lot(7), add_lot(8), add_lot(0), get_lot(5), get_lot(6)]
        self.assertEqual(ask_on([1, 2, 3, 4, 5], [], calls), [[5], [-28], [-28], [7], [-2]])

    def test_a_wrong_area_comes_ahead_of_being_full(self):
        calls = [add_lot(41), add_lot(BIGGEST), add_lot(40)]
        self.assertEqual(ask_on([1] * 6, [], calls), [[-22], [-22], [-28]])

    def test_orders_are_not_counted_as_lots(self):
        self.assertEqual(ask_on([], [(1, 0)] * 6, [add_lot(5), get_lot(0)]), [[0], [5]])


class AddOrder(unittest.TestCase):
    def test_numbers_go_up_from_0(self):
        calls = [add_order(area, area % 4) for area in (3, 1, 4, 1, 5, 9)]
        self.assertEqual(ask_on([7, 7], [], calls), [[0], [1], [2], [3], [4], [5]])

    def test_a_new_order_gets_the_lowest_priority(self):
        given = after([remove_order(0), add_order(5, 6), get_order(3), get_order(0)])
        self.assertEqual(given, [[3], [3], [5, 6], [7, 1]])

    def test_areas_at_the_edges(self):
        areas = (0, 1, 40, 41, BIGGEST)
        given = ask_on([7], [], [add_order(area, 1) for area in areas])
        self.assertEqual(given, [[-22], [0], [1], [-22], [-22]])

    def test_sets_at_the_edges(self):
        for lot_count in range(7):
            with self.subTest(lot_count=lot_count):
                full = 2 ** lot_count - 1
                sets = (0, full, full + 1, full + 2, BIGGEST)
                calls = [add_order(5, lots) for lots in sets] + [get_order(0), get_order(1)]
                told = [[0], [1], [-22], [-22], [-22], [5, 0], [5, full]]
                self.assertEqual(ask_on([9] * lot_count, [], calls), told)

    def test_a_set_with_lots_that_exist_and_one_that_does_not(self):
        self.assertEqual(after([add_order(5, 8 + 1), add_order(5, 8 + 7)]), [[-22], [-22]])

    def test_a_lot_may_be_accepted_once_it_is_there(self):
        given = after([add_order(5, 8), add_lot(1), add_order(5, 8), get_order(4)])
        self.assertEqual(given, [[-22], [3], [4], [5, 8]])

    def test_a_seventh_order(self):
        calls = [add_order(2, 1), add_order(3, 1), get_order(5), get_order(6)]
        self.assertEqual(ask_on([9], [(1, 1)] * 5, calls), [[5], [-28], [2, 1], [-2]])

    def test_a_wrong_argument_comes_ahead_of_being_full(self):
        calls = [add_order(0, 0), add_order(41, 0), add_order(1, 2), add_order(41, 2), add_order(1, 1)]
        given = ask_on([9], [(1, 1)] * 6, calls)
        self.assertEqual(given, [[-22], [-22], [-22], [-22], [-28]])

    def test_there_is_room_again_after_a_removal(self):
        calls = [add_order(3, 1), remove_order(2), add_order(3, 1), add_order(3, 1)]
        self.assertEqual(ask_on([9], [(1, 1)] * 6, calls), [[-28], [5], [5], [-28]])


class RemoveOrder(unittest.TestCase):
    def test_later_orders_move_up(self):
        for gone in range(4):
            with self.subTest(gone=gone):
                left = [list(order) for order in ORDERS]
                left.pop(gone)
                given = after([remove_order(gone)] + [get_order(order) for order in range(4)])
                self.assertEqual(given, [[3]] + left + [[-2]])

    def test_from_the_front_until_none_is_left(self):
        calls = [remove_order(0), get_order(0)] * 4 + [remove_order(0)]
        told = [[3], [7, 1], [2], [4, 2], [1], [9, 0], [0], [-2], [-2]]
        self.assertEqual(after(calls), told)

    def test_from_the_end_until_none_is_left(self):
        calls = [remove_order(order) for order in (4, 3, 3, 2, 1, 0, 0)]
        self.assertEqual(after(calls), [[-2], [3], [-2], [2], [1], [0], [-2]])

    def test_the_first_of_six_and_the_last_of_six(self):
        orders = [(order + 1, order % 4) for order in range(6)]
        given = ask_on([5, 5], orders, [remove_order(5), remove_order(0), get_order(3), get_order(4)])
        self.assertEqual(given, [[5], [4], [5, 0], [-2]])

    def test_no_such_order(self):
        given = after([remove_order(4), remove_order(5), remove_order(BIGGEST)])
        self.assertEqual(given, [[-2], [-2], [-2]])

    def test_lots_stay(self):
        given = after([remove_order(0), get_lot(0), get_lot(1), get_lot(2), get_lot(3)])
        self.assertEqual(given, [[3], [10], [6], [0], [-2]])


class GetOrder(unittest.TestCase):
    def test_each_order(self):
        given = after([get_order(order) for order in range(4)])
        self.assertEqual(given, [[8, 3], [7, 1], [4, 2], [9, 0]])

    def test_behind_the_last(self):
        given = after([get_order(4), get_order(5), get_order(BIGGEST)])
        self.assertEqual(given, [[-2], [-2], [-2]])

    def test_the_sixth_and_behind_it(self):
        given = ask_on([], [(1, 0)] * 5 + [(40, 0)], [get_order(5), get_order(6)])
        self.assertEqual(given, [[40, 0], [-2]])


class GetLot(unittest.TestCase):
    def test_each_lot(self):
        self.assertEqual(after([get_lot(0), get_lot(1), get_lot(2)]), [[10], [6], [0]])

    def test_behind_the_last(self):
        given = after([get_lot(3), get_lot(4), get_lot(BIGGEST)])
        self.assertEqual(given, [[-2], [-2], [-2]])

    def test_the_sixth_and_behind_it(self):
        self.assertEqual(ask_on([1, 2, 3, 4, 5, 6], [], [get_lot(5), get_lot(6)]), [[6], [-2]])


class SetLotArea(unittest.TestCase):
    def test_answers_the_area_it_had(self):
        calls = [set_lot_area(1, 33), set_lot_area(1, 12), set_lot_area(1, 12), get_lot(1)]
        self.assertEqual(after(calls), [[6], [33], [12], [12]])

    def test_the_other_lots_stay(self):
        given = after([set_lot_area(1, 33), get_lot(0), get_lot(2)])
        self.assertEqual(given, [[6], [10], [0]])

    def test_areas_at_the_edges(self):
        calls = [set_lot_area(2, area) for area in (40, 41, BIGGEST, 0)] + [get_lot(2)]
        self.assertEqual(after(calls), [[0], [-22], [-22], [40], [0]])

    def test_the_first_the_last_and_behind_it(self):
        calls = [set_lot_area(lot, 1) for lot in (0, 2, 3, BIGGEST)]
        self.assertEqual(after(calls), [[10], [0], [-2], [-2]])

    def test_a_missing_lot_comes_ahead_of_a_wrong_area(self):
        given = after([set_lot_area(3, 41), set_lot_area(BIGGEST, BIGGEST)])
        self.assertEqual(given, [[-2], [-2]])


class SetAcceptedLots(unittest.TestCase):
    def test_answers_the_set_it_had(self):
        calls = [set_accepted_lots(0, 5), set_accepted_lots(0, 2), set_accepted_lots(0, 2), get_order(0)]
        self.assertEqual(after(calls), [[3], [5], [2], [8, 2]])

    def test_the_other_orders_stay(self):
        given = after([set_accepted_lots(1, 5), get_order(0), get_order(2), get_order(3)])
        self.assertEqual(given, [[1], [8, 3], [4, 2], [9, 0]])

    def test_sets_at_the_edges(self):
        for lot_count in range(7):
            with self.subTest(lot_count=lot_count):
                full = 2 ** lot_count - 1
                sets = (full, full + 1, BIGGEST, 0)
                calls = [set_accepted_lots(0, lots) for lots in sets] + [get_order(0)]
                given = ask_on([9] * lot_count, [(5, 0)], calls)
                self.assertEqual(given, [[0], [-22], [-22], [full], [5, 0]])

    def test_the_first_the_last_and_behind_it(self):
        calls = [set_accepted_lots(order, 7) for order in (0, 3, 4, BIGGEST)]
        self.assertEqual(after(calls), [[3], [0], [-2], [-2]])

    def test_a_missing_order_comes_ahead_of_a_wrong_set(self):
        given = after([set_accepted_lots(4, 8), set_accepted_lots(BIGGEST, BIGGEST)])
        self.assertEqual(given, [[-2], [-2]])


class SetOrderArea(unittest.TestCase):
    def test_answers_the_area_it_wanted(self):
        calls = [set_order_area(1, 33), set_order_area(1, 12), set_order_area(1, 12), get_order(1)]
        self.assertEqual(after(calls), [[7], [33], [12], [12, 1]])

    def test_the_other_orders_stay(self):
        given = after([set_order_area(1, 33), get_order(0), get_order(2), get_order(3)])
        self.assertEqual(given, [[7], [8, 3], [4, 2], [9, 0]])

    def test_areas_at_the_edges(self):
        calls = [set_order_area(2, area) for area in (0, 1, 40, 41, BIGGEST)] + [get_order(2)]
        self.assertEqual(after(calls), [[-22], [4], [1], [-22], [-22], [40, 2]])

    def test_the_first_the_last_and_behind_it(self):
        calls = [set_order_area(order, 1) for order in (0, 3, 4, BIGGEST)]
        self.assertEqual(after(calls), [[8], [9], [-2], [-2]])

    def test_a_missing_order_comes_ahead_of_a_wrong_area(self):
        calls = [set_order_area(4, 0), set_order_area(4, 41), set_order_area(BIGGEST, BIGGEST)]
        self.assertEqual(after(calls), [[-2], [-2], [-2]])


class SwapPriorities(unittest.TestCase):
    def test_two_orders_change_places(self):
        for first, second in ((0, 1), (1, 0), (0, 3), (3, 0), (2, 1)):
            with self.subTest(first=first, second=second):
                orders = [list(order) for order in ORDERS]
                orders[first], orders[second] = list(ORDERS[second]), list(ORDERS[first])
                calls = [swap_priorities(first, second)] + [get_order(order) for order in range(5)]
                self.assertEqual(after(calls), [[0]] + orders + [[-2]])

    def test_one_with_itself(self):
        for order in range(4):
            with self.subTest(order=order):
                calls = [swap_priorities(order, order)] + [get_order(order) for order in range(4)]
                self.assertEqual(after(calls), [[0]] + [list(order) for order in ORDERS])

    def test_twice_is_as_it_was(self):
        calls = [swap_priorities(0, 2), swap_priorities(2, 0)] + [get_order(order) for order in range(4)]
        self.assertEqual(after(calls), [[0], [0]] + [list(order) for order in ORDERS])

    def test_the_first_and_the_last_of_six(self):
        orders = [(order + 1, order % 4) for order in range(6)]
        given = ask_on([5, 5], orders, [swap_priorities(5, 0)] + [get_order(order) for order in range(6)])
        self.assertEqual(given, [[0], [6, 1], [2, 1], [3, 2], [4, 3], [5, 0], [1, 0]])

    def test_no_such_order(self):
        pairs = [(0, 4), (4, 0), (4, 4), (4, 5), (3, BIGGEST), (BIGGEST, 3), (BIGGEST, BIGGEST)]
        calls = [swap_priorities(first, second) for first, second in pairs]
        self.assertEqual(after(calls), [[-2]] * len(pairs))

    def test_a_lot_of_this_number_is_no_order(self):
        self.assertEqual(ask_on([5, 5, 5], [(1, 1)], [swap_priorities(0, 1), swap_priorities(2, 0)]), [[-2], [-2]])

    def test_changes_go_to_the_order_that_stands_there_by_then(self):
        calls = [swap_priorities(0, 3), set_order_area(0, 40), set_accepted_lots(3, 4), remove_order(1)]
        calls += [get_order(order) for order in range(4)]
        self.assertEqual(after(calls), [[0], [9], [3], [3], [40, 0], [4, 2], [8, 4], [-2]])

    def test_lots_and_sums_stay(self):
        asked = [MAX_SERVED, STATUS, get_lot(0), get_lot(1), get_lot(2)]
        self.assertEqual(after([swap_priorities(0, 3)] + asked), [[0]] + after(asked))


class Status(unittest.TestCase):
    def test_counts_and_sums(self):
        self.assertEqual(after([STATUS]), [[3, 4, 16, 28]])

    def test_nothing_there(self):
        self.assertEqual(ask_on([], [], [STATUS]), [[0, 0, 0, 0]])

    def test_lots_alone_and_orders_alone(self):
        self.assertEqual(ask_on([0, 7], [], [STATUS]), [[2, 0, 7, 0]])
        self.assertEqual(ask_on([], [(3, 0), (40, 0), (1, 0)], [STATUS]), [[0, 3, 0, 44]])

    def test_the_greatest_of_all(self):
        self.assertEqual(ask_on([40] * 6, [(40, 63)] * 6, [STATUS]), [[6, 6, 240, 240]])

    def test_after_each_change(self):
        changes = [
            (add_lot(5), [4, 4, 21, 28]),
            (add_order(11, 0), [3, 5, 16, 39]),
            (remove_order(1), [3, 3, 16, 21]),
            (set_lot_area(2, 40), [3, 4, 56, 28]),
            (set_accepted_lots(3, 7), [3, 4, 16, 28]),
            (set_order_area(0, 1), [3, 4, 16, 21]),
            (swap_priorities(0, 1), [3, 4, 16, 28]),
            (CREATE, [0, 0, 0, 0]),
        ]
        for change, told in changes:
            with self.subTest(change=change):
                self.assertEqual(after([change, STATUS])[1], told)


class FailedCalls(unittest.TestCase):
    def check(self, lot_areas, orders, refused):
        """Each refused call by itself, and all of them at once, leave all as it was."""
        asked = probes(len(lot_areas), len(orders))
        ahead = ask_on(lot_areas, orders, asked)
        for call, code in refused:
            with self.subTest(call=call):
                given = ask_on(lot_areas, orders, [call] + asked)
                self.assertEqual(given, [[code]] + ahead)
        given = ask_on(lot_areas, orders, [call for call, code in refused] + asked)
        self.assertEqual(given, [[code] for call, code in refused] + ahead)

    def test_on_a_stock_with_room(self):
        self.check(LOTS, ORDERS, [
            (add_lot(41), -22),
            (add_order(0, 1), -22),
            (add_order(41, 1), -22),
            (add_order(5, 8), -22),
            (remove_order(4), -2),
            (get_order(4), -2),
            (get_lot(3), -2),
            (set_lot_area(3, 1), -2),
            (set_lot_area(0, 41), -22),
            (set_accepted_lots(4, 1), -2),
            (set_accepted_lots(0, 8), -22),
            (set_order_area(4, 1), -2),
            (set_order_area(0, 0), -22),
            (set_order_area(3, 41), -22),
            (shortage(16), -22),
            (can_serve([0, 0, 0]), -22),
            (can_serve([0, 0, 0, 0, 0]), -22),
            (can_serve([0, 0, 0, 100]), -22),
            (max_served_with_lot(3, 1), -2),
            (max_served_with_lot(0, 41), -22),
            (max_served_with_order(0, 1), -22),
            (max_served_with_order(41, 1), -22),
            (max_served_with_order(5, 8), -22),
            (gain_of_lot(3), -2),
            (swap_priorities(0, 4), -2),
            (swap_priorities(4, 0), -2),
        ])

    def test_on_a_full_stock(self):
        orders = [(7, 1), (12, 6), (40, 24), (1, 0), (9, 63), (30, 33)]
        self.check([10, 6, 0, 40, 3, 8], orders, [
            (add_lot(5), -28),
            (add_lot(41), -22),
            (add_order(5, 1), -28),
            (add_order(0, 1), -22),
            (add_order(5, 64), -22),
            (remove_order(6), -2),
            (set_lot_area(6, 1), -2),
            (set_lot_area(5, 41), -22),
            (set_accepted_lots(5, 64), -22),
            (set_order_area(5, 41), -22),
            (shortage(64), -22),
            (can_serve([0] * 5), -22),
            (can_serve([0] * 7), -22),
            (can_serve([0] * 8), -22),
            (can_serve([100, 0, 0, 0, 0, 0]), -22),
            (max_served_with_lot(6, 1), -2),
            (max_served_with_lot(5, 41), -22),
            (max_served_with_order(5, 64), -22),
            (gain_of_lot(6), -2),
            (swap_priorities(5, 6), -2),
            (swap_priorities(6, 6), -2),
        ])

    def test_on_an_empty_stock(self):
        self.check([], [], [
            (add_lot(41), -22),
            (add_order(1, 1), -22),
            (add_order(0, 0), -22),
            (remove_order(0), -2),
            (get_order(0), -2),
            (get_lot(0), -2),
            (set_lot_area(0, 0), -2),
            (set_accepted_lots(0, 0), -2),
            (set_order_area(0, 1), -2),
            (shortage(1), -22),
            (can_serve([0]), -22),
            (max_served_with_lot(0, 0), -2),
            (max_served_with_order(1, 1), -22),
            (gain_of_lot(0), -2),
            (swap_priorities(0, 0), -2),
        ])


if __name__ == "__main__":
    unittest.main()
