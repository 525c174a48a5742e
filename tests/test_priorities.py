"""priority_amounts, cut_plan and leftovers, held against slow searches that know nothing of the package."""

import itertools
import unittest

from helper import (
    CUT_PLAN, LEFTOVERS, MAX_SERVED, PRIORITY_AMOUNTS, accepts, add_lot, add_order, ask_on,
    can_serve, remove_order, set_accepted_lots, set_lot_area, set_order_area, slow_max_served, some_stocks,
    swap_priorities,
)

LOTS = [10, 6]
ORDERS = [(8, 3), (7, 1), (4, 2)]
ASKED = [PRIORITY_AMOUNTS, CUT_PLAN, LEFTOVERS]


class SlowSearch:
    """The words of "Terms", step by step: each greatest amount is tried from above."""

    def __init__(self, lot_areas, orders):
        self.lot_areas = lot_areas
        self.orders = orders
        self.sets = []
        for size in range(len(orders) + 1):
            for chosen in itertools.combinations(range(len(orders)), size):
                lots = [lot for lot in range(len(lot_areas)) if any(accepts(orders, order, lot) for order in chosen)]
                self.sets.append((chosen, lots))

    def can_serve(self, left, amounts):
        return all(
            sum(amounts[order] for order in chosen) <= sum(left[lot] for lot in lots)
            for chosen, lots in self.sets
        )

    def amounts(self):
        found = []
        for order, (area, _) in enumerate(self.orders):
            later = [0] * (len(self.orders) - order - 1)
            found.append(next(
                amount for amount in range(area, -1, -1)
                if self.can_serve(self.lot_areas, found + [amount] + later)
            ))
        return found

    def plan(self):
        left = list(self.lot_areas)
        rest = self.amounts()
        cuts = []
        for order in range(len(self.orders)):
            for lot in range(len(left)):
                cut = self.greatest_cut(left, rest, order, lot)
                left[lot] -= cut
                rest[order] -= cut
                cuts.append(cut)
        return cuts, left

    def greatest_cut(self, left, rest, order, lot):
        if not accepts(self.orders, order, lot):
            return 0
        for cut in range(min(rest[order], left[lot]), -1, -1):
            fewer = [area - cut if number == lot else area for number, area in enumerate(left)]
            # What earlier orders get is cut already; their rest is 0.
            still = [amount - cut if number == order else amount for number, amount in enumerate(rest)]
            if self.can_serve(fewer, still):
                return cut
        raise AssertionError("not even a cut of 0 leaves enough")

    def told(self):
        """The answers of priority_amounts, cut_plan and leftovers."""
        amounts = self.amounts()
        cuts, left = self.plan()
        return [[len(amounts), *amounts], [sum(amounts), *cuts], [len(left), *left]]


def all_cut_plans(left, orders):
    """Every cut plan in which no order gets more than it wants, as rows of cuts for the orders."""
    if not orders:
        return [[]]
    plans = []
    area, lots = orders[0]
    choices = [range(left[lot] + 1 if (lots // 2 ** lot) % 2 == 1 else 1) for lot in range(len(left))]
    for row in itertools.product(*choices):
        if sum(row) <= area:
            fewer = [left[lot] - row[lot] for lot in range(len(left))]
            plans += [[list(row), *plan] for plan in all_cut_plans(fewer, orders[1:])]
    return plans


def rows_of(cuts, lot_count, order_count):
    return [cuts[order * lot_count:(order + 1) * lot_count] for order in range(order_count)]


class Told(unittest.TestCase):
    """Stocks whose answers are worked out by hand."""

    def check(self, lot_areas, orders, amounts, rows, left):
        cuts = [cut for row in rows for cut in row]
        told = [[len(amounts), *amounts], [sum(amounts), *cuts], [len(left), *left]]
        self.assertEqual(ask_on(lot_areas, orders, ASKED), told)
        self.assertEqual(SlowSearch(lot_areas, orders).told(), told)

    def test_the_documents_example(self):
        self.check(LOTS, ORDERS, [8, 7, 1], [[3, 5], [7, 0], [0, 1]], [0, 0])

    def test_nothing_there(self):
        self.check([], [], [], [], [])

    def test_no_orders(self):
        self.check([10, 0, 40], [], [], [], [10, 0, 40])

    def test_no_lots(self):
        self.check([], [(7, 0), (40, 0)], [0, 0], [], [])

    def test_orders_that_accept_no_lot(self):
        self.check([10, 6], [(7, 0), (4, 2), (40, 0)], [0, 4, 0], [[0, 0], [0, 4], [0, 0]], [10, 2])

    def test_lots_of_area_0(self):
        self.check([0, 5, 0], [(7, 7), (4, 5)], [5, 0], [[0, 5, 0], [0, 0, 0]], [0, 0, 0])

    def test_a_lot_that_no_order_accepts(self):
        self.check([9, 3], [(5, 2)], [3], [[0, 3]], [9, 0])

    def test_the_higher_priority_gets_what_both_want(self):
        self.check([10], [(8, 1), (8, 1)], [8, 2], [[8], [2]], [0])

    def test_all_get_what_they_want_with_area_left(self):
        self.check([10, 10], [(5, 1), (6, 3)], [5, 6], [[5, 0], [5, 1]], [0, 9])

    def test_the_first_lot_comes_first(self):
        self.check([4, 4, 4], [(6, 7), (6, 7)], [6, 6], [[4, 2, 0], [0, 2, 4]], [0, 0, 0])
        self.check([4, 4, 4], [(6, 6)], [6], [[0, 4, 2]], [4, 0, 2])

    def test_the_first_lot_is_spared_for_a_later_order(self):
        self.check([5, 5], [(5, 3), (5, 1)], [5, 5], [[0, 5], [5, 0]], [0, 0])
        self.check([5, 5], [(5, 3), (3, 1)], [5, 3], [[2, 3], [3, 0]], [0, 2])

    def test_a_later_order_gets_no_more_than_its_priority_amount_spared(self):
        # The last order wants more of lot 0 than there is; but only 2 units are its own.
        self.check([5, 3], [(6, 3), (40, 1)], [6, 2], [[3, 3], [2, 0]], [0, 0])

    def test_lots_are_spared_for_two_later_orders_together(self):
        self.check([6, 6, 6], [(6, 7), (5, 3), (5, 3)], [6, 5, 5], [[2, 0, 4], [4, 1, 0], [0, 5, 0]], [0, 0, 2])

    def test_the_greatest_of_all(self):
        rows = [[40 if lot == order else 0 for lot in range(6)] for order in range(6)]
        self.check([40] * 6, [(40, 63)] * 6, [40] * 6, rows, [0] * 6)

    def test_a_chain_of_orders(self):
        # Each order shares a lot with the next one, and all but the last must give way.
        orders = [(4, 3), (4, 6), (4, 12), (4, 24), (4, 48), (4, 32)]
        rows = [[4 if lot == order else 0 for lot in range(6)] for order in range(6)]
        self.check([4] * 6, orders, [4] * 6, rows, [0] * 6)
        self.check([4] * 6, orders[:5] + [(4, 1)], [4] * 6, [rows[1], rows[2], rows[3], rows[4], rows[5], rows[0]],
                   [0] * 6)

    def test_the_total_is_what_is_served_not_what_is_wanted(self):
        self.check([3], [(40, 1), (40, 1)], [3, 0], [[3], [0]], [0])


class Searched(unittest.TestCase):
    """Many stocks, against the slow search."""

    def check(self, stocks):
        for lot_areas, orders in stocks:
            with self.subTest(lot_areas=lot_areas, orders=orders):
                self.assertEqual(ask_on(lot_areas, orders, ASKED), SlowSearch(lot_areas, orders).told())

    def test_small_stocks_with_every_number_of_lots_and_orders(self):
        for lot_count, order_count in itertools.product(range(7), repeat=2):
            self.check(some_stocks(6, [lot_count], [order_count], 5, 5))

    def test_six_lots_and_six_orders(self):
        self.check(some_stocks(12, [6], [6], 40, 40))

    def test_six_lots_and_six_orders_with_small_areas(self):
        self.check(some_stocks(60, [6], [6], 4, 6))

    def test_plenty_and_scarcity(self):
        self.check(some_stocks(30, range(7), range(7), 40, 5))
        self.check(some_stocks(30, range(7), range(7), 5, 40))

    def test_all_small_stocks(self):
        sets = [(1, 0), (1, 1), (1, 2), (2, 3), (3, 3)]
        for areas in itertools.product(range(3), repeat=2):
            self.check([(list(areas), list(orders)) for orders in itertools.product(sets, repeat=3)])


class AmongAllCutPlans(unittest.TestCase):
    """Small stocks, against the list of all their cut plans, which needs no sets of orders.

    The priority amounts are the greatest ones when compared order by order,
    and so are the cuts among the plans with these amounts.
    """

    def check(self, stocks):
        for lot_areas, orders in stocks:
            with self.subTest(lot_areas=lot_areas, orders=orders):
                plans = all_cut_plans(lot_areas, orders)
                amounts = max([sum(row) for row in plan] for plan in plans)
                plan = max(plan for plan in plans if [sum(row) for row in plan] == amounts)
                cuts = [cut for row in plan for cut in row]
                left = [area - sum(row[lot] for row in plan) for lot, area in enumerate(lot_areas)]
                told = [[len(amounts), *amounts], [sum(amounts), *cuts], [len(left), *left]]
                greatest = max(sum(sum(row) for row in plan) for plan in plans)
                self.assertEqual(ask_on(lot_areas, orders, ASKED + [MAX_SERVED]), told + [[greatest]])

    def test_up_to_three_lots_and_three_orders(self):
        for lot_count, order_count in itertools.product(range(4), repeat=2):
            self.check(some_stocks(12, [lot_count], [order_count], 3, 3))

    def test_two_lots_and_four_orders(self):
        self.check(some_stocks(40, [2], [4], 3, 3))

    def test_four_lots_and_two_orders(self):
        self.check(some_stocks(40, [4], [2], 3, 5))


class Promised(unittest.TestCase):
    """Points 2 to 4 on many stocks."""

    def check(self, lot_areas, orders):
        served, amounts, plan, left = ask_on(lot_areas, orders, [MAX_SERVED] + ASKED)
        self.assertEqual(amounts[0], len(orders))
        amounts = amounts[1:]
        self.assertEqual(ask_on(lot_areas, orders, [can_serve(amounts)]), [[1]])
        self.assertEqual([sum(amounts)], served)
        self.assertEqual(served, [slow_max_served(lot_areas, orders)])
        self.assertEqual([order for order, (area, _) in enumerate(orders) if not 0 <= amounts[order] <= area], [])
        self.check_plan(lot_areas, orders, amounts, plan, left)

    def check_plan(self, lot_areas, orders, amounts, plan, left):
        self.assertEqual(len(plan), 1 + len(lot_areas) * len(orders))
        self.assertEqual(plan[0], sum(amounts))
        rows = rows_of(plan[1:], len(lot_areas), len(orders))
        self.assertEqual([sum(row) for row in rows], amounts)
        for order, row in enumerate(rows):
            self.assertEqual([cut for cut in row if cut < 0], [])
            self.assertEqual([cut for lot, cut in enumerate(row) if cut > 0 and not accepts(orders, order, lot)], [])
        cut_from = [sum(row[lot] for row in rows) for lot in range(len(lot_areas))]
        self.assertEqual([lot for lot, area in enumerate(lot_areas) if cut_from[lot] > area], [])
        self.assertEqual(left, [len(lot_areas), *[area - cut for area, cut in zip(lot_areas, cut_from)]])

    def test_many_stocks(self):
        for stocks in (
            some_stocks(200, [6], [6], 40, 40),
            some_stocks(200, [5, 6], [5, 6], 5, 5),
            some_stocks(200, range(7), range(7), 40, 40),
            some_stocks(100, range(7), range(7), 40, 8),
            some_stocks(100, range(7), range(7), 8, 40),
        ):
            for lot_areas, orders in stocks:
                with self.subTest(lot_areas=lot_areas, orders=orders):
                    self.check(lot_areas, orders)


class AfterChanges(unittest.TestCase):
    def check(self, changes, lot_areas, orders):
        told = SlowSearch(lot_areas, orders).told()
        self.assertEqual(ask_on(LOTS, ORDERS, changes + ASKED)[len(changes):], told)

    def test_each_change(self):
        self.check([], LOTS, ORDERS)
        self.check([add_lot(5)], [10, 6, 5], ORDERS)
        self.check([add_order(9, 3)], LOTS, ORDERS + [(9, 3)])
        self.check([remove_order(0)], LOTS, [(7, 1), (4, 2)])
        self.check([set_lot_area(1, 40)], [10, 40], ORDERS)
        self.check([set_accepted_lots(0, 2)], LOTS, [(8, 2), (7, 1), (4, 2)])
        self.check([set_order_area(0, 40)], LOTS, [(40, 3), (7, 1), (4, 2)])

    def test_a_swap_of_two_orders(self):
        given = ask_on(LOTS, ORDERS, [swap_priorities(0, 2)] + ASKED)
        self.assertEqual(given, [[0], [3, 4, 7, 5], [16, 0, 4, 7, 0, 3, 2], [2, 0, 0]])
        self.check([swap_priorities(0, 2)], LOTS, [(4, 2), (7, 1), (8, 3)])
        self.check([swap_priorities(2, 1)], LOTS, [(8, 3), (4, 2), (7, 1)])
        self.check([swap_priorities(0, 1)], LOTS, [(7, 1), (8, 3), (4, 2)])

    def test_a_swap_of_one_with_itself(self):
        for order in range(3):
            self.check([swap_priorities(order, order)], LOTS, ORDERS)

    def test_a_swap_there_and_back(self):
        self.check([swap_priorities(0, 2), swap_priorities(0, 2)], LOTS, ORDERS)

    def test_a_removal_behind_a_swap(self):
        self.check([swap_priorities(0, 2), remove_order(0)], LOTS, [(7, 1), (8, 3)])

    def test_swaps_on_many_stocks(self):
        for lot_areas, orders in some_stocks(40, [4, 5], [5, 6], 6, 6):
            with self.subTest(lot_areas=lot_areas, orders=orders):
                swapped = list(orders)
                swapped[1], swapped[4] = orders[4], orders[1]
                given = ask_on(lot_areas, orders, [swap_priorities(1, 4)] + ASKED)
                self.assertEqual(given, [[0]] + SlowSearch(lot_areas, swapped).told())


if __name__ == "__main__":
    unittest.main()
