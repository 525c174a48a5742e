"""shortage, can_serve and can_serve_all, held against slow counts and searches for a cut plan."""

import itertools
import unittest

from helper import (
    BIGGEST, CAN_SERVE_ALL, WORST_SET, accepts, add_lot, add_order, ask_on, can_serve, remove_order,
    set_accepted_lots, set_lot_area, set_order_area, shortage, slow_shortage, some_stocks,
    swap_priorities,
)

LOTS = [10, 6]
ORDERS = [(8, 3), (7, 1), (4, 2)]


def slow_shortage_of_mask(lot_areas, orders, mask):
    """The answer of shortage for this set of orders."""
    chosen = [order for order in range(len(orders)) if (mask // 2 ** order) % 2 == 1]
    return slow_shortage(lot_areas, orders, chosen)


def has_cut_plan(left, orders, amounts):
    """Whether the lots can be cut so that each order has its amount: a search that knows no sets."""
    for order, amount in enumerate(amounts):
        if amount > 0:
            for lot, area in enumerate(left):
                if area > 0 and accepts(orders, order, lot):
                    fewer = [*left[:lot], area - 1, *left[lot + 1:]]
                    rest = [*amounts[:order], amount - 1, *amounts[order + 1:]]
                    if has_cut_plan(fewer, orders, rest):
                        return True
            return False
    return True


class Shortage(unittest.TestCase):
    def check(self, lot_areas, orders):
        sets = range(2 ** len(orders))
        told = [slow_shortage_of_mask(lot_areas, orders, mask) for mask in sets]
        # In two parts, as no list may have more than 60 calls.
        given = []
        for part in (sets[:40], sets[40:]):
            given += ask_on(lot_areas, orders, [shortage(mask) for mask in part])
        self.assertEqual(given, told)

    def test_told_by_hand(self):
        given = ask_on(LOTS, ORDERS, [shortage(mask) for mask in range(8)])
        self.assertEqual(given, [
            [0, 0, 0], [0, 8, 16], [0, 7, 10], [0, 15, 16],
            [0, 4, 6], [0, 12, 16], [0, 11, 16], [3, 19, 16],
        ])

    def test_a_shortage_of_0_and_of_1(self):
        given = ask_on([7, 7], [(7, 1), (8, 2)], [shortage(1), shortage(2)])
        self.assertEqual(given, [[0, 7, 7], [1, 8, 7]])

    def test_a_shared_lot_is_available_once(self):
        self.assertEqual(ask_on([10], [(8, 1), (8, 1)], [shortage(3)]), [[6, 16, 10]])

    def test_sets_at_the_edges(self):
        for order_count in range(7):
            with self.subTest(order_count=order_count):
                full = 2 ** order_count - 1
                calls = [shortage(mask) for mask in (0, full, full + 1, full + 2, BIGGEST)]
                wanted = 5 * order_count
                available = 9 if order_count > 0 else 0
                told = [[0, 0, 0], [max(wanted - 9, 0), wanted, available], [-22], [-22], [-22]]
                self.assertEqual(ask_on([9], [(5, 1)] * order_count, calls), told)

    def test_orders_that_exist_and_one_that_does_not(self):
        self.assertEqual(ask_on(LOTS, ORDERS, [shortage(8 + 1), shortage(8 + 7), shortage(16)]), [[-22]] * 3)

    def test_a_set_of_lots_is_no_set_of_orders(self):
        self.assertEqual(ask_on([5] * 6, [(3, 1)], [shortage(2), shortage(63), shortage(1)]), [[-22], [-22], [0, 3, 5]])

    def test_the_greatest_of_all(self):
        self.assertEqual(ask_on([40] * 6, [(40, 63)] * 6, [shortage(63)]), [[0, 240, 240]])
        self.assertEqual(ask_on([0] * 6, [(40, 63)] * 6, [shortage(63)]), [[240, 240, 0]])

    def test_every_set_of_many_stocks(self):
        for lot_count, order_count in itertools.product(range(7), repeat=2):
            for lot_areas, orders in some_stocks(3, [lot_count], [order_count], 12, 12):
                with self.subTest(lot_areas=lot_areas, orders=orders):
                    self.check(lot_areas, orders)

    def test_every_set_of_six_lots_and_six_orders(self):
        for lot_areas, orders in some_stocks(40, [6], [6], 40, 40):
            with self.subTest(lot_areas=lot_areas, orders=orders):
                self.check(lot_areas, orders)


class CanServe(unittest.TestCase):
    def check(self, lot_areas, orders, told):
        """A result for each list of amounts."""
        given = ask_on(lot_areas, orders, [can_serve(amounts) for amounts, _ in told])
        self.assertEqual(given, [[result] for _, result in told])

    def test_told_by_hand(self):
        self.check(LOTS, ORDERS, [
            ([5, 7, 4], 1), ([6, 7, 4], 0), ([5, 8, 4], 0), ([5, 7, 5], 0), ([8, 7, 1], 1), ([8, 7, 2], 0),
            ([0, 0, 0], 1), ([8, 7, 4], 0),
        ])

    def test_amounts_greater_than_the_wanted_areas(self):
        self.check(LOTS, ORDERS, [
            ([16, 0, 0], 1), ([17, 0, 0], 0), ([0, 10, 0], 1), ([0, 11, 0], 0), ([0, 0, 6], 1),
            ([0, 0, 7], 0), ([0, 10, 6], 1), ([1, 10, 6], 0), ([9, 7, 0], 1), ([6, 10, 0], 1), ([6, 10, 1], 0),
        ])
        self.check([40] * 6, [(1, 63)], [([40], 1), ([41], 1), ([99], 1)])
        self.check([40, 40, 18], [(1, 7)], [([98], 1), ([99], 0)])

    def test_amounts_at_the_edges(self):
        self.check([40, 40, 40], [(5, 7)], [
            ([0], 1), ([1], 1), ([99], 1), ([100], -22), ([101], -22), ([BIGGEST], -22),
        ])
        self.check([40] * 3, [(5, 7), (5, 7)], [
            ([99, 0], 1), ([99, 21], 1), ([99, 22], 0), ([99, 99], 0), ([0, 100], -22), ([100, 0], -22),
            ([BIGGEST, BIGGEST], -22),
        ])

    def test_a_wrong_amount_anywhere_in_the_list(self):
        lists = [[100 if place == wrong else 0 for place in range(6)] for wrong in range(6)]
        self.check([40] * 6, [(1, 63)] * 6, [(amounts, -22) for amounts in lists] + [([0] * 6, 1)])

    def test_an_amount_that_is_too_great_is_refused_even_where_nothing_could_be_served(self):
        self.check([], [(5, 0)], [([99], 0), ([100], -22)])

    def test_lists_of_another_length(self):
        for order_count in range(7):
            with self.subTest(order_count=order_count):
                lists = [[0] * length for length in range(9)]
                told = [(amounts, 1 if len(amounts) == order_count else -22) for amounts in lists]
                self.check([9], [(5, 1)] * order_count, told)

    def test_wrong_in_both_ways(self):
        self.check(LOTS, ORDERS, [([100, 0], -22), ([0, 0, 0, 100], -22), ([BIGGEST] * 8, -22)])

    def test_no_orders(self):
        self.check([], [], [([], 1), ([0], -22)])
        self.check([10], [], [([], 1), ([10], -22)])

    def test_a_set_is_short_though_no_order_is(self):
        self.check([10, 3], [(9, 1), (9, 1), (9, 2)], [
            ([10, 0, 3], 1), ([5, 5, 3], 1), ([6, 5, 0], 0), ([5, 5, 4], 0), ([0, 10, 3], 1),
        ])

    def test_a_set_that_leaves_out_the_order_in_the_middle(self):
        self.check([4, 40], [(1, 1), (1, 2), (1, 1)], [([2, 40, 2], 1), ([3, 0, 2], 0)])

    def test_an_order_that_accepts_no_lot(self):
        self.check([10], [(5, 0), (5, 1)], [([0, 10], 1), ([1, 0], 0), ([1, 9], 0)])

    def check_against_the_search(self, lot_areas, orders, most):
        amounts_lists = list(itertools.product(range(most + 1), repeat=len(orders)))
        for start in range(0, len(amounts_lists), 45):
            part = [list(amounts) for amounts in amounts_lists[start:start + 45]]
            self.check(lot_areas, orders, [
                (amounts, 1 if has_cut_plan(lot_areas, orders, amounts) else 0) for amounts in part
            ])

    def test_every_list_of_amounts_against_a_search_for_a_cut_plan(self):
        for lot_count, order_count in itertools.product(range(4), range(4)):
            for lot_areas, orders in some_stocks(6, [lot_count], [order_count], 2, 2):
                with self.subTest(lot_areas=lot_areas, orders=orders):
                    self.check_against_the_search(lot_areas, orders, 4)

    def test_four_orders_against_a_search_for_a_cut_plan(self):
        for lot_areas, orders in some_stocks(12, [2, 3], [4], 2, 2):
            with self.subTest(lot_areas=lot_areas, orders=orders):
                self.check_against_the_search(lot_areas, orders, 2)

    def test_six_lots_and_six_orders_against_a_search_for_a_cut_plan(self):
        for lot_areas, orders in some_stocks(25, [6], [6], 1, 2):
            for amounts in ([1] * 6, [0, 1, 0, 1, 0, 1], [2, 0, 0, 1, 0, 0], [area for area, _ in orders]):
                with self.subTest(lot_areas=lot_areas, orders=orders, amounts=amounts):
                    result = 1 if has_cut_plan(lot_areas, orders, amounts) else 0
                    self.check(lot_areas, orders, [(amounts, result)])


class CanServeAll(unittest.TestCase):
    def check(self, lot_areas, orders, result):
        self.assertEqual(ask_on(lot_areas, orders, [CAN_SERVE_ALL]), [[result]])

    def test_told_by_hand(self):
        self.check(LOTS, ORDERS, 0)
        self.check(LOTS, [(5, 3), (7, 1), (4, 2)], 1)
        self.check(LOTS, [(6, 3), (7, 1), (4, 2)], 0)

    def test_nothing_there(self):
        self.check([], [], 1)
        self.check([10], [], 1)
        self.check([], [(1, 0)], 0)

    def test_an_order_that_accepts_no_lot(self):
        self.check([40], [(1, 1), (1, 0)], 0)

    def test_one_set_is_short_though_there_is_enough_in_all(self):
        self.check([4, 40], [(3, 1), (1, 2), (2, 1)], 0)
        self.check([5, 40], [(3, 1), (1, 2), (2, 1)], 1)

    def test_after_each_change(self):
        changes = [
            (add_lot(40), 0), (add_order(1, 0), 0), (remove_order(2), 1), (set_lot_area(1, 9), 1),
            (set_lot_area(1, 8), 0), (set_accepted_lots(0, 1), 0), (set_order_area(0, 5), 1),
            (set_order_area(0, 6), 0), (swap_priorities(0, 2), 0),
        ]
        for change, result in changes:
            with self.subTest(change=change):
                self.assertEqual(ask_on(LOTS, ORDERS, [change, CAN_SERVE_ALL])[1], [result])

    def test_against_the_shortages_of_all_sets(self):
        results = []
        for stocks in (
            some_stocks(200, range(7), range(7), 12, 6),
            some_stocks(60, [6], [6], 40, 20),
            some_stocks(100, [2, 3], [2, 3], 2, 2),
        ):
            for lot_areas, orders in stocks:
                with self.subTest(lot_areas=lot_areas, orders=orders):
                    sets = range(2 ** len(orders))
                    short = any(slow_shortage_of_mask(lot_areas, orders, mask)[0] > 0 for mask in sets)
                    wanted = [area for area, _ in orders]
                    given = ask_on(lot_areas, orders, [CAN_SERVE_ALL, can_serve(wanted), WORST_SET])
                    self.assertEqual(given[:2], [[0], [0]] if short else [[1], [1]])
                    self.assertEqual(given[2][0] > 0, short)
                    results.append(short)
        # Else the rows above would say little.
        self.assertGreater(results.count(True), 50)
        self.assertGreater(results.count(False), 50)


if __name__ == "__main__":
    unittest.main()
