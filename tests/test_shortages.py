"""max_served and worst_set, held against slow counts that know nothing of the package."""

import itertools
import unittest

from helper import (
    MAX_SERVED, WORST_SET, add_lot, add_order, ask_on, remove_order, set_accepted_lots,
    set_lot_area, set_order_area, slow_max_served, slow_shortage, some_stocks,
)


def slow_worst_set(lot_areas, orders):
    """The answer of worst_set, by a count of all sets of orders."""
    counted = []
    for size in range(len(orders) + 1):
        for chosen in itertools.combinations(range(len(orders)), size):
            mask = sum(2 ** order for order in chosen)
            counted.append((-slow_shortage(lot_areas, orders, chosen)[0], mask, chosen))
    lack, _, chosen = min(counted)
    return [-lack, len(chosen), *chosen]


class Told(unittest.TestCase):
    """Stocks whose answers are worked out by hand."""

    def check(self, lot_areas, orders, served, worst):
        self.assertEqual(ask_on(lot_areas, orders, [MAX_SERVED, WORST_SET]), [[served], worst])
        self.assertEqual(slow_max_served(lot_areas, orders), served)
        self.assertEqual(slow_worst_set(lot_areas, orders), worst)

    def test_nothing_there(self):
        self.check([], [], 0, [0, 0])

    def test_no_orders(self):
        self.check([10, 40], [], 0, [0, 0])

    def test_no_lots(self):
        self.check([], [(7, 0), (40, 0), (1, 0)], 0, [48, 3, 0, 1, 2])

    def test_a_shortage_of_0_with_area_left(self):
        self.check([10, 10], [(5, 1), (6, 2)], 11, [0, 0])

    def test_a_shortage_of_0_with_no_area_left(self):
        self.check([10, 6], [(10, 1), (6, 2)], 16, [0, 0])

    def test_a_shortage_of_1(self):
        self.check([10, 6], [(10, 1), (7, 2)], 16, [1, 1, 1])

    def test_one_order_short_and_one_not(self):
        self.check([10, 2], [(4, 1), (5, 2)], 6, [3, 1, 1])

    def test_a_set_is_short_though_no_order_is(self):
        self.check([10], [(6, 1), (6, 1)], 10, [2, 2, 0, 1])

    def test_the_middle_orders_are_the_worst_set(self):
        self.check([9, 3, 9], [(1, 1), (4, 2), (5, 2), (1, 4)], 5, [6, 2, 1, 2])

    def test_first_and_last_of_six_are_the_worst_set(self):
        orders = [(9, 2), (5, 1), (5, 1), (5, 1), (5, 1), (9, 2)]
        self.check([40, 3], orders, 23, [15, 2, 0, 5])

    def test_a_tie_leaves_out_an_order_that_adds_nothing(self):
        # The order that wants just what its own lot has is left out, wherever it stands.
        self.check([4, 5], [(4, 1), (4, 1), (5, 2)], 9, [4, 2, 0, 1])
        self.check([4, 5], [(4, 1), (5, 2), (4, 1)], 9, [4, 2, 0, 2])
        self.check([4, 5], [(5, 2), (4, 1), (4, 1)], 9, [4, 2, 1, 2])

    def test_a_tie_of_four_sets(self):
        # Order 1 by itself, with order 0, with order 2, and with both.
        self.check([2, 3, 4], [(3, 2), (8, 1), (4, 4)], 9, [6, 1, 1])

    def test_a_tie_with_an_order_that_shares_a_lot(self):
        # Order 0 in the first row brings another lot along, of just the area that it wants.
        self.check([5, 5], [(5, 3), (10, 1)], 10, [5, 1, 1])
        self.check([5, 5], [(10, 1), (5, 3)], 10, [5, 1, 0])

    def test_an_order_that_adds_1_is_in_the_worst_set(self):
        self.check([5, 5], [(6, 3), (10, 1)], 10, [6, 2, 0, 1])

    def test_a_tie_at_0_goes_to_the_empty_set(self):
        # Each of the seven other sets wants just what is available for it.
        self.check([3, 1, 2], [(3, 1), (1, 2), (2, 4)], 6, [0, 0])

    def test_orders_that_accept_no_lot(self):
        self.check([10], [(3, 0), (5, 1), (4, 0)], 5, [7, 2, 0, 2])
        self.check([40] * 6, [(1, 0)] * 6, 0, [6, 6, 0, 1, 2, 3, 4, 5])

    def test_a_lot_of_area_0(self):
        self.check([0], [(3, 1)], 0, [3, 1, 0])
        self.check([0, 2], [(3, 3), (1, 2)], 2, [2, 2, 0, 1])

    def test_a_lot_that_no_order_accepts(self):
        self.check([40, 1], [(3, 2)], 1, [2, 1, 0])

    def test_the_greatest_of_all(self):
        self.check([40] * 6, [(40, 63)] * 6, 240, [0, 0])
        self.check([0] * 6, [(40, 63)] * 6, 0, [240, 6, 0, 1, 2, 3, 4, 5])

    def test_a_lot_counts_once_however_many_orders_accept_it(self):
        self.check([10, 3], [(8, 1), (8, 1), (8, 3)], 13, [11, 3, 0, 1, 2])


class Counted(unittest.TestCase):
    """Many stocks, against the slow counts."""

    def check(self, stocks):
        for lot_areas, orders in stocks:
            with self.subTest(lot_areas=lot_areas, orders=orders):
                told = [[slow_max_served(lot_areas, orders)], slow_worst_set(lot_areas, orders)]
                self.assertEqual(ask_on(lot_areas, orders, [MAX_SERVED, WORST_SET]), told)

    def test_six_lots_and_six_orders(self):
        self.check(some_stocks(150, [6], [6], 40, 40))

    def test_six_lots_and_six_orders_with_small_areas_and_many_ties(self):
        self.check(some_stocks(200, [6], [6], 3, 3))

    def test_all_counts_of_lots_and_orders(self):
        self.check(some_stocks(300, range(7), range(7), 12, 12))

    def test_plenty_and_scarcity(self):
        self.check(some_stocks(80, range(7), range(7), 40, 5))
        self.check(some_stocks(80, range(7), range(7), 5, 40))

    def test_all_small_stocks(self):
        sets = [(1, 0), (1, 1), (1, 2), (1, 3), (2, 1), (2, 3)]
        for areas in itertools.product(range(3), repeat=2):
            self.check([(list(areas), list(orders)) for orders in itertools.product(sets, repeat=3)])

    def test_the_greatest_shortage_is_often_shared(self):
        # Else the rows above would say nothing of ties.
        shared = 0
        for lot_areas, orders in some_stocks(200, [6], [6], 3, 3):
            greatest = slow_worst_set(lot_areas, orders)[0]
            sets = [
                chosen
                for size in range(7)
                for chosen in itertools.combinations(range(6), size)
                if slow_shortage(lot_areas, orders, chosen)[0] == greatest
            ]
            shared += greatest > 0 and len(sets) > 1
        self.assertGreater(shared, 20)


class AfterChanges(unittest.TestCase):
    """Both calls tell of the stock as it is by then."""

    def check(self, changes, lot_areas, orders):
        calls = changes + [MAX_SERVED, WORST_SET]
        told = [[slow_max_served(lot_areas, orders)], slow_worst_set(lot_areas, orders)]
        self.assertEqual(ask_on([10, 6], [(8, 3), (7, 1), (4, 2)], calls)[len(changes):], told)

    def test_each_change(self):
        self.check([], [10, 6], [(8, 3), (7, 1), (4, 2)])
        self.check([add_lot(5)], [10, 6, 5], [(8, 3), (7, 1), (4, 2)])
        self.check([add_order(9, 2)], [10, 6], [(8, 3), (7, 1), (4, 2), (9, 2)])
        self.check([remove_order(0)], [10, 6], [(7, 1), (4, 2)])
        self.check([remove_order(1)], [10, 6], [(8, 3), (4, 2)])
        self.check([set_lot_area(1, 0)], [10, 0], [(8, 3), (7, 1), (4, 2)])
        self.check([set_accepted_lots(0, 0)], [10, 6], [(8, 0), (7, 1), (4, 2)])
        self.check([set_order_area(2, 40)], [10, 6], [(8, 3), (7, 1), (40, 2)])

    def test_a_lot_added_behind_an_order_is_not_accepted_by_itself(self):
        self.check([add_lot(40), add_lot(40)], [10, 6, 40, 40], [(8, 3), (7, 1), (4, 2)])

    def test_changes_one_behind_another(self):
        changes = [remove_order(0), add_lot(2), add_order(30, 5), set_accepted_lots(0, 4)]
        self.check(changes, [10, 6, 2], [(7, 4), (4, 2), (30, 5)])

    def test_asking_changes_nothing(self):
        given = ask_on([10, 6], [(8, 3), (7, 1), (4, 2)], [WORST_SET, MAX_SERVED] * 3)
        self.assertEqual(given, [[3, 3, 0, 1, 2], [16]] * 3)


if __name__ == "__main__":
    unittest.main()
