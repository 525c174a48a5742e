"""Calls that only ask leave all as it was; and what is answered on stocks that lack something."""

import unittest

from helper import (
    CAN_SERVE_ALL, CUT_PLAN, LEFTOVERS, PRIORITY_AMOUNTS, STATUS, ask_on, can_serve, gain_of_lot,
    max_served_with_lot, max_served_with_order, probes, shortage, some_stocks, swap_priorities,
)


def asking_calls(lot_count, order_count):
    """Calls that only ask, as many of them answered as this stock allows."""
    calls = [shortage(0), shortage(2 ** order_count - 1), CAN_SERVE_ALL]
    calls += [can_serve([0] * order_count), can_serve([99] * order_count)]
    calls += [PRIORITY_AMOUNTS, CUT_PLAN, LEFTOVERS, STATUS]
    calls += [max_served_with_order(40, 0), max_served_with_order(1, 2 ** lot_count - 1)]
    for lot in (0, lot_count - 1):
        if lot_count > 0:
            calls += [max_served_with_lot(lot, 0), max_served_with_lot(lot, 40), gain_of_lot(lot)]
    return calls


class OnlyAsking(unittest.TestCase):
    def check(self, lot_areas, orders):
        """Each call by itself, and all of them at once."""
        asked = probes(len(lot_areas), len(orders))
        ahead = ask_on(lot_areas, orders, asked)
        calls = asking_calls(len(lot_areas), len(orders))
        alone = []
        for call in calls:
            with self.subTest(lot_areas=lot_areas, orders=orders, call=call):
                given = ask_on(lot_areas, orders, [call] + asked)
                self.assertGreaterEqual(given[0][0], 0)
                self.assertEqual(given[1:], ahead)
                alone.append(given[0])
        with self.subTest(lot_areas=lot_areas, orders=orders):
            self.assertEqual(ask_on(lot_areas, orders, calls + asked), alone + ahead)

    def test_a_stock_with_room(self):
        self.check([10, 6, 0], [(8, 3), (7, 1), (4, 2), (9, 0)])

    def test_a_full_stock(self):
        self.check([10, 6, 0, 40, 3, 8], [(7, 1), (12, 6), (40, 24), (1, 0), (9, 63), (30, 33)])

    def test_an_empty_stock(self):
        self.check([], [])

    def test_no_orders(self):
        self.check([10, 40], [])

    def test_no_lots(self):
        self.check([], [(7, 0), (40, 0)])

    def test_lots_of_area_0_and_of_area_40(self):
        self.check([0, 40, 0, 40], [(40, 15), (40, 3), (1, 5), (40, 10)])

    def test_many_stocks(self):
        for lot_areas, orders in some_stocks(25, range(7), range(7), 20, 20):
            self.check(lot_areas, orders)

    def test_each_answer_is_the_same_again(self):
        for lot_areas, orders in some_stocks(25, range(7), range(7), 20, 20):
            with self.subTest(lot_areas=lot_areas, orders=orders):
                calls = asking_calls(len(lot_areas), len(orders))
                given = ask_on(lot_areas, orders, calls + calls)
                self.assertEqual(given[:len(calls)], given[len(calls):])


class Lacking(unittest.TestCase):
    """Stocks that lack something, with answers that are worked out by hand."""

    def check(self, lot_areas, orders, told):
        given = ask_on(lot_areas, orders, [call for call, _ in told])
        for (call, answer), found in zip(told, given):
            with self.subTest(call=call):
                self.assertEqual(found, answer)

    def test_no_lots_and_no_orders(self):
        self.check([], [], [
            (shortage(0), [0, 0, 0]),
            (shortage(1), [-22]),
            (can_serve([]), [1]),
            (can_serve([0]), [-22]),
            (PRIORITY_AMOUNTS, [0]),
            (CUT_PLAN, [0]),
            (LEFTOVERS, [0]),
            (CAN_SERVE_ALL, [1]),
            (max_served_with_lot(0, 5), [-2]),
            (max_served_with_lot(0, 41), [-2]),
            (max_served_with_order(5, 0), [0]),
            (max_served_with_order(5, 1), [-22]),
            (gain_of_lot(0), [-2]),
            (swap_priorities(0, 0), [-2]),
            (STATUS, [0, 0, 0, 0]),
        ])

    def test_no_orders(self):
        self.check([10, 40], [], [
            (shortage(0), [0, 0, 0]),
            (shortage(1), [-22]),
            (can_serve([]), [1]),
            (can_serve([0]), [-22]),
            (PRIORITY_AMOUNTS, [0]),
            (CUT_PLAN, [0]),
            (LEFTOVERS, [2, 10, 40]),
            (CAN_SERVE_ALL, [1]),
            (max_served_with_lot(0, 5), [0]),
            (max_served_with_order(15, 1), [10]),
            (max_served_with_order(15, 3), [15]),
            (gain_of_lot(1), [0]),
            (swap_priorities(0, 0), [-2]),
            (STATUS, [2, 0, 50, 0]),
        ])

    def test_no_lots(self):
        self.check([], [(7, 0), (40, 0)], [
            (shortage(1), [7, 7, 0]),
            (shortage(3), [47, 47, 0]),
            (can_serve([0, 0]), [1]),
            (can_serve([0, 1]), [0]),
            (PRIORITY_AMOUNTS, [2, 0, 0]),
            (CUT_PLAN, [0]),
            (LEFTOVERS, [0]),
            (CAN_SERVE_ALL, [0]),
            (max_served_with_lot(0, 5), [-2]),
            (max_served_with_order(5, 0), [0]),
            (max_served_with_order(5, 1), [-22]),
            (gain_of_lot(0), [-2]),
            (swap_priorities(0, 1), [0]),
            (STATUS, [0, 2, 0, 47]),
            (shortage(1), [40, 40, 0]),
        ])

    def test_lots_of_area_0(self):
        self.check([0, 0], [(7, 3), (2, 1)], [
            (shortage(3), [9, 9, 0]),
            (can_serve([0, 0]), [1]),
            (can_serve([0, 1]), [0]),
            (PRIORITY_AMOUNTS, [2, 0, 0]),
            (CUT_PLAN, [0, 0, 0, 0, 0]),
            (LEFTOVERS, [2, 0, 0]),
            (CAN_SERVE_ALL, [0]),
            (max_served_with_lot(0, 5), [5]),
            (max_served_with_lot(1, 40), [7]),
            (max_served_with_order(5, 3), [0]),
            (gain_of_lot(0), [1]),
            (swap_priorities(1, 0), [0]),
            (STATUS, [2, 2, 0, 9]),
        ])

    def test_orders_that_accept_no_lot(self):
        self.check([10, 6], [(7, 0), (2, 0)], [
            (shortage(3), [9, 9, 0]),
            (can_serve([0, 0]), [1]),
            (can_serve([1, 0]), [0]),
            (PRIORITY_AMOUNTS, [2, 0, 0]),
            (CUT_PLAN, [0, 0, 0, 0, 0]),
            (LEFTOVERS, [2, 10, 6]),
            (CAN_SERVE_ALL, [0]),
            (max_served_with_lot(0, 40), [0]),
            (max_served_with_order(5, 1), [5]),
            (gain_of_lot(0), [0]),
            (swap_priorities(0, 0), [0]),
            (STATUS, [2, 2, 16, 9]),
        ])


if __name__ == "__main__":
    unittest.main()
