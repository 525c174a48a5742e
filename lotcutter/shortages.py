"""What sets of orders lack, and how much can be served because of it."""

from lotcutter.codes import OUT_OF_LIMITS
from lotcutter.stocks import Stock

MOST_AMOUNT = 99


def members(mask):
    """Give the numbers in a set, in increasing order."""
    return [number for number in range(mask.bit_length()) if (mask >> number) & 1 == 1]


def accepted_lots(stock, orders):
    """Give the set of the lots that at least one order of the set accepts."""
    lots = 0
    for order in members(orders):
        lots = lots | stock.order_lots[order]
    return lots


def wanted_area(stock, orders):
    """Give the sum of the areas that the orders of the set want."""
    return sum([stock.order_areas[order] for order in members(orders)])


def available_area(stock, orders):
    """Give the sum of the areas of the lots that the orders of the set accept."""
    return sum([stock.lot_areas[lot] for lot in members(accepted_lots(stock, orders))])


def room_of(stock, orders):
    """Give by how much more is available for the set of orders than it wants: below 0 if it's short."""
    return available_area(stock, orders) - wanted_area(stock, orders)


def shortage_of(stock, orders):
    """Give by how much the set of orders wants more than is available for it."""
    return max(0, -room_of(stock, orders))


def worst_orders(stock):
    """Give the set of orders with the greatest shortage."""
    worst = 0
    greatest = shortage_of(stock, worst)
    for orders in range(1 << len(stock.order_areas)):
        lack = shortage_of(stock, orders)
        # The sets come from the smallest mask on, so a tie leaves the smaller mask in its place.
        if lack > greatest:
            worst = orders
            greatest = lack
    return worst


def served_area(stock):
    """Give the greatest total area that can be cut without giving an order more than it wants."""
    return sum(stock.order_areas) - shortage_of(stock, worst_orders(stock))


def max_served(stock):
    """Answer the greatest total area that can be cut without giving an order more than it wants."""
    return [served_area(stock)]


def worst_set(stock):
    """Answer the shortage of the worst set, how many orders it has, and these."""
    worst = worst_orders(stock)
    orders = members(worst)
    return [shortage_of(stock, worst), len(orders)] + orders


def shortage(stock, orders):
    """Answer the shortage of a set of orders, what it wants, and what is available for it."""
    if not stock.has_orders(orders):
        return [OUT_OF_LIMITS]
    return [shortage_of(stock, orders), wanted_area(stock, orders), available_area(stock, orders)]


def can_serve_all(stock):
    """Answer 1 if all orders can be served at the same time with what they want, otherwise 0."""
    return [1 if shortage_of(stock, worst_orders(stock)) == 0 else 0]


def can_serve(stock, amounts):
    """Answer 1 if the orders can be served at the same time with these amounts, otherwise 0."""
    if len(amounts) != len(stock.order_areas) or any([amount > MOST_AMOUNT for amount in amounts]):
        return [OUT_OF_LIMITS]
    return can_serve_all(Stock(stock.lot_areas, amounts, stock.order_lots))
