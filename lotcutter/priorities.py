"""What each order gets if the orders are served by priority, and how the lots are cut for it."""

from lotcutter.shortages import accepted_lots, room_of
from lotcutter.stocks import Stock


def amounts_by_priority(stock):
    """Give the priority amount of each order."""
    served = Stock(stock.lot_areas, [0] * len(stock.order_areas), stock.order_lots)
    for order in range(len(stock.order_areas)):
        # This order and all later ones have the amount 0 by now. A set has no more room if
        # the later ones are left out, so the sets that this order is the last one of are enough.
        rooms = [room_of(served, orders) for orders in range(1 << order, 2 << order)]
        served.order_areas[order] = min(stock.order_areas[order], min(rooms))
    return served.order_areas


def greatest_cut(left, order, lot):
    """Give the most that may be cut from the lot for the order.

    The orders of the stock that is handed in want what they are still to get,
    and its lots have what is left of them.
    """
    if (left.order_lots[order] >> lot) & 1 == 0:
        return 0
    cut = min(left.order_areas[order], left.lot_areas[lot])
    # The sets of later orders are enough: a set with this order wants less by what is cut,
    # just as less is available for it, and its room stays the same.
    for orders in range(0, 1 << len(left.order_areas), 2 << order):
        if (accepted_lots(left, orders) >> lot) & 1 == 1:
            cut = min(cut, room_of(left, orders))
    return cut


def cuts_by_priority(stock, amounts):
    """Give the priority cut plan for these priority amounts: for each order, what is cut from each lot."""
    left = Stock(stock.lot_areas, amounts, stock.order_lots)
    plan = []
    for order in range(len(amounts)):
        cuts = []
        for lot in range(len(stock.lot_areas)):
            cut = greatest_cut(left, order, lot)
            left.order_areas[order] -= cut
            left.lot_areas[lot] -= cut
            cuts.append(cut)
        plan.append(cuts)
    return plan


def priority_amounts(stock):
    """Answer how many orders there are, and the priority amount of each."""
    return [len(stock.order_areas)] + amounts_by_priority(stock)


def cut_plan(stock):
    """Answer the sum of the priority amounts, and the priority cut plan order by order."""
    amounts = amounts_by_priority(stock)
    numbers = [sum(amounts)]
    for cuts in cuts_by_priority(stock, amounts):
        numbers.extend(cuts)
    return numbers


def leftovers(stock):
    """Answer how many lots there are, and what the priority cut plan leaves of each."""
    areas = list(stock.lot_areas)
    for cuts in cuts_by_priority(stock, amounts_by_priority(stock)):
        for lot in range(len(cuts)):
            areas[lot] -= cuts[lot]
    return [len(areas)] + areas
