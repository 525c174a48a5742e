"""max_served_with_lot, max_served_with_order and gain_of_lot, held against a slow count."""

import itertools
import unittest

from helper import (
    BIGGEST, MAX_SERVED, ask_on, gain_of_lot, get_lot, max_served_with_lot, max_served_with_order,
    probes, set_lot_area, slow_max_served, some_stocks,
)

LOTS = [10, 6]
ORDERS = [(8, 3), (7, 1), (4, 2)]


def with_area(lot_areas, lot, area):
    """The areas, with another one for this lot."""
    return [*lot_areas[:lot], area, *lot_areas[lot + 1:]]


class MaxServedWithLot(unittest.TestCase):
    def test_told_by_hand(self):
        calls = [max_served_with_lot(0, area) for area in (0, 9, 10, 11, 13, 14, 40)]
        self.assertEqual(ask_on(LOTS, ORDERS, calls), [[6], [15], [16], [17], [19], [19], [19]])
        calls = [max_served_with_lot(1, area) for area in (0, 6, 8, 9, 10, 40)]
        self.assertEqual(ask_on(LOTS, ORDERS, calls), [[10], [16], [18], [19], [19], [19]])

    def test_areas_at_the_edges(self):
        calls = [max_served_with_lot(0, area) for area in (0, 1, 40, 41, BIGGEST)]
        self.assertEqual(ask_on([7], [(40, 1), (3, 1)], calls), [[0], [1], [40], [-22], [-22]])

    def test_the_last_lot_and_behind_it(self):
        for lot_count in range(7):
            with self.subTest(lot_count=lot_count):
                calls = [max_served_with_lot(lot, 9) for lot in (lot_count, lot_count + 1, BIGGEST)]
                calls += [max_served_with_lot(lot, 9) for lot in range(lot_count)]
                orders = [(40, 2 ** lot_count - 1)]
                told = [[-2], [-2], [-2]] + [[2 * (lot_count - 1) + 9]] * lot_count
                self.assertEqual(ask_on([2] * lot_count, orders, calls), told)

    def test_a_missing_lot_comes_ahead_of_a_wrong_area(self):
        given = ask_on(LOTS, ORDERS, [max_served_with_lot(2, 41), max_served_with_lot(BIGGEST, BIGGEST)])
        self.assertEqual(given, [[-2], [-2]])

    def test_an_order_of_this_number_is_no_lot(self):
        self.assertEqual(ask_on(LOTS, ORDERS, [max_served_with_lot(2, 5)]), [[-2]])

    def test_no_orders(self):
        self.assertEqual(ask_on([3], [], [max_served_with_lot(0, 40)]), [[0]])

    def test_the_same_as_when_the_area_is_set(self):
        for lot_areas, orders in some_stocks(60, [1, 3, 6], range(7), 40, 40):
            for area in (0, 1, 17, 40):
                with self.subTest(lot_areas=lot_areas, orders=orders, area=area):
                    last = len(lot_areas) - 1
                    calls = [max_served_with_lot(last, area), get_lot(last), set_lot_area(last, area), MAX_SERVED]
                    served, had, old, then = ask_on(lot_areas, orders, calls)
                    self.assertEqual([had, old], [[lot_areas[last]]] * 2)
                    self.assertEqual(served, then)
                    self.assertEqual(served, [slow_max_served(with_area(lot_areas, last, area), orders)])

    def test_every_lot_of_many_stocks(self):
        for lot_areas, orders in some_stocks(150, range(1, 7), range(7), 10, 10):
            with self.subTest(lot_areas=lot_areas, orders=orders):
                lots = range(len(lot_areas))
                told = [[slow_max_served(with_area(lot_areas, lot, 5), orders)] for lot in lots]
                self.assertEqual(ask_on(lot_areas, orders, [max_served_with_lot(lot, 5) for lot in lots]), told)


class MaxServedWithOrder(unittest.TestCase):
    def test_told_by_hand(self):
        calls = [max_served_with_order(area, lots) for area, lots in ((1, 0), (1, 1), (40, 3))]
        self.assertEqual(ask_on([10, 6], [(8, 1)], [MAX_SERVED] + calls), [[8], [8], [9], [16]])
        calls = [max_served_with_order(area, 2) for area in (1, 5, 6, 7, 40)]
        self.assertEqual(ask_on([10, 6], [(8, 1)], calls), [[9], [13], [14], [14], [14]])

    def test_areas_at_the_edges(self):
        calls = [max_served_with_order(area, 3) for area in (0, 1, 40, 41, BIGGEST)]
        self.assertEqual(ask_on([39, 39], [(5, 1)], calls), [[-22], [6], [45], [-22], [-22]])

    def test_sets_at_the_edges(self):
        for lot_count in range(7):
            with self.subTest(lot_count=lot_count):
                full = 2 ** lot_count - 1
                calls = [max_served_with_order(40, lots) for lots in (0, full, full + 1, full + 2, BIGGEST)]
                told = [[0], [3 * lot_count], [-22], [-22], [-22]]
                self.assertEqual(ask_on([3] * lot_count, [], calls), told)

    def test_lots_that_exist_and_one_that_does_not(self):
        given = ask_on(LOTS, ORDERS, [max_served_with_order(5, 4 + 1), max_served_with_order(5, 4 + 3)])
        self.assertEqual(given, [[-22], [-22]])

    def test_wrong_in_both_ways(self):
        given = ask_on(LOTS, ORDERS, [max_served_with_order(0, 4), max_served_with_order(41, BIGGEST)])
        self.assertEqual(given, [[-22], [-22]])

    def test_a_seventh_order(self):
        calls = [max_served_with_order(area, lots) for area, lots in ((1, 1), (40, 1), (5, 2), (40, 3), (7, 0))]
        given = ask_on([9, 5], [(1, 1)] * 6, [MAX_SERVED] + calls)
        self.assertEqual(given, [[6], [7], [9], [11], [14], [6]])

    def test_a_seventh_order_that_is_wrong(self):
        calls = [max_served_with_order(area, lots) for area, lots in ((0, 1), (41, 1), (1, 4), (0, 4))]
        self.assertEqual(ask_on([9, 5], [(1, 1)] * 6, calls), [[-22]] * 4)

    def test_it_is_not_there_afterwards(self):
        for orders in (ORDERS, [(1, 1)] * 6, []):
            asked = probes(len(LOTS), len(orders))
            given = ask_on(LOTS, orders, [max_served_with_order(40, 3)] + asked)
            self.assertEqual(given[1:], ask_on(LOTS, orders, asked))

    def test_many_stocks(self):
        for order_count in range(7):
            for lot_areas, orders in some_stocks(25, range(7), [order_count], 20, 20):
                with self.subTest(lot_areas=lot_areas, orders=orders):
                    sets = (0, (2 ** len(lot_areas) - 1) // 3, 2 ** len(lot_areas) - 1)
                    added = list(itertools.product((1, 12, 40), sets))
                    told = [[slow_max_served(lot_areas, orders + [order])] for order in added]
                    calls = [max_served_with_order(area, lots) for area, lots in added]
                    self.assertEqual(ask_on(lot_areas, orders, calls), told)


class GainOfLot(unittest.TestCase):
    def test_told_by_hand(self):
        self.assertEqual(ask_on(LOTS, ORDERS, [gain_of_lot(0), gain_of_lot(1)]), [[1], [1]])
        self.assertEqual(ask_on([10, 2], [(4, 1), (5, 2)], [gain_of_lot(0), gain_of_lot(1)]), [[0], [1]])
        self.assertEqual(ask_on([4, 5], [(4, 1), (5, 2)], [gain_of_lot(0), gain_of_lot(1)]), [[0], [0]])

    def test_a_lot_of_area_0(self):
        self.assertEqual(ask_on([0, 0], [(1, 1)], [gain_of_lot(0), gain_of_lot(1)]), [[1], [0]])

    def test_a_lot_of_area_39_and_of_area_40(self):
        for area in (39, 40):
            given = ask_on([area, area], [(40, 1), (3, 1), (40, 2)], [gain_of_lot(0), gain_of_lot(1)])
            self.assertEqual(given, [[1], [40 - area]])

    def test_the_last_lot_and_behind_it(self):
        for lot_count in range(7):
            with self.subTest(lot_count=lot_count):
                calls = [gain_of_lot(lot) for lot in [*range(lot_count + 1), lot_count + 1, BIGGEST]]
                orders = [(40, 2 ** lot_count - 1)]
                told = [[1]] * lot_count + [[-2]] * 3
                self.assertEqual(ask_on([2] * lot_count, orders, calls), told)

    def test_an_order_of_this_number_is_no_lot(self):
        self.assertEqual(ask_on(LOTS, ORDERS, [gain_of_lot(2)]), [[-2]])

    def test_no_orders(self):
        self.assertEqual(ask_on([3, 40], [], [gain_of_lot(0), gain_of_lot(1)]), [[0], [0]])

    def check(self, lot_areas, orders):
        served = slow_max_served(lot_areas, orders)
        lots = range(len(lot_areas))
        given = ask_on(lot_areas, orders, [gain_of_lot(lot) for lot in lots])
        told = [[slow_max_served(with_area(lot_areas, lot, lot_areas[lot] + 1), orders) - served] for lot in lots]
        self.assertEqual(given, told)
        self.assertEqual([gain for gain in given if gain not in ([0], [1])], [])
        return given

    def test_many_stocks(self):
        gains = []
        for stocks in (
            some_stocks(150, range(7), range(7), 10, 10),
            some_stocks(60, [6], [6], 40, 40),
            some_stocks(80, [4, 5, 6], [4, 5, 6], 3, 3),
        ):
            for lot_areas, orders in stocks:
                with self.subTest(lot_areas=lot_areas, orders=orders):
                    gains += self.check(lot_areas, orders)
        # Else the rows above would say little.
        self.assertGreater(gains.count([0]), 100)
        self.assertGreater(gains.count([1]), 100)

    def test_many_stocks_with_lots_of_area_40(self):
        gains = []
        for lot_areas, orders in some_stocks(60, range(1, 7), [5, 6], 1, 40):
            with self.subTest(lot_areas=lot_areas, orders=orders):
                gains += self.check([40 * area for area in lot_areas], orders)
        self.assertGreater(gains.count([1]), 20)


if __name__ == "__main__":
    unittest.main()
