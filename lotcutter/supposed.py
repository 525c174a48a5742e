"""What could be served if a lot or the orders were different."""

from lotcutter.codes import NOT_THERE, OUT_OF_LIMITS
from lotcutter.shortages import max_served, served_area
from lotcutter.stocks import MOST_AREA, Stock, is_order_area


def stock_with_lot(stock, lot, area):
    """Give another stock that differs in the area of this lot alone."""
    areas = list(stock.lot_areas)
    areas[lot] = area
    return Stock(areas, stock.order_areas, stock.order_lots)


def max_served_with_lot(stock, lot, area):
    """Answer what max_served would answer if the lot had this area."""
    if not stock.has_lot(lot):
        return [NOT_THERE]
    if area > MOST_AREA:
        return [OUT_OF_LIMITS]
    return max_served(stock_with_lot(stock, lot, area))


def max_served_with_order(stock, area, lots):
    """Answer what max_served would answer with this order added, also where there is no room for one."""
    if not is_order_area(area) or not stock.has_lots(lots):
        return [OUT_OF_LIMITS]
    return max_served(Stock(stock.lot_areas, stock.order_areas + [area], stock.order_lots + [lots]))


def gain_of_lot(stock, lot):
    """Answer by how much max_served would increase if the lot were greater by 1."""
    if not stock.has_lot(lot):
        return [NOT_THERE]
    # Not by max_served_with_lot: the greatest lot that may be added has a gain, too.
    greater = stock_with_lot(stock, lot, stock.lot_areas[lot] + 1)
    return [served_area(greater) - served_area(stock)]
