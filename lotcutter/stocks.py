"""A stock: what lots there are, and what the orders want and accept."""

from lotcutter.codes import FULL, NOT_THERE, OUT_OF_LIMITS

MOST_LOTS = 6
MOST_ORDERS = 6
MOST_AREA = 40


def is_order_area(area):
    """Tell whether an order may want this area."""
    return area >= 1 and area <= MOST_AREA


class Stock:
    """The lots and orders of one stock.

    Each call gives back the list of the numbers it is answered with. It checks
    everything before it changes anything, so a refused call leaves no trace.

    What a stock is made of is copied and not held against the limits, so that
    one that is only supposed can be made, too, and asked like any other.
    """

    def __init__(self, lot_areas, order_areas, order_lots):
        self.lot_areas = list(lot_areas)
        self.order_areas = list(order_areas)
        self.order_lots = list(order_lots)

    def has_lot(self, lot):
        """Tell whether there is a lot of this number."""
        return lot < len(self.lot_areas)

    def has_lots(self, lots):
        """Tell whether all lots of the set are there."""
        return lots < (1 << len(self.lot_areas))

    def has_order(self, order):
        """Tell whether there is an order of this number."""
        return order < len(self.order_areas)

    def has_orders(self, orders):
        """Tell whether all orders of the set are there."""
        return orders < (1 << len(self.order_areas))

    def add_lot(self, area):
        """Add a lot and answer its number."""
        if area > MOST_AREA:
            return [OUT_OF_LIMITS]
        if len(self.lot_areas) >= MOST_LOTS:
            return [FULL]
        self.lot_areas.append(area)
        return [len(self.lot_areas) - 1]

    def add_order(self, area, lots):
        """Add an order of the lowest priority and answer its number."""
        if not is_order_area(area) or not self.has_lots(lots):
            return [OUT_OF_LIMITS]
        if len(self.order_areas) >= MOST_ORDERS:
            return [FULL]
        self.order_areas.append(area)
        self.order_lots.append(lots)
        return [len(self.order_areas) - 1]

    def remove_order(self, order):
        """Remove an order and answer how many orders are left."""
        if not self.has_order(order):
            return [NOT_THERE]
        self.order_areas.pop(order)
        self.order_lots.pop(order)
        return [len(self.order_areas)]

    def get_order(self, order):
        """Answer the area that an order wants and the set of lots it accepts."""
        if not self.has_order(order):
            return [NOT_THERE]
        return [self.order_areas[order], self.order_lots[order]]

    def get_lot(self, lot):
        """Answer the area of a lot."""
        if not self.has_lot(lot):
            return [NOT_THERE]
        return [self.lot_areas[lot]]

    def set_lot_area(self, lot, area):
        """Give a lot another area and answer the one it had."""
        if not self.has_lot(lot):
            return [NOT_THERE]
        if area > MOST_AREA:
            return [OUT_OF_LIMITS]
        old_area = self.lot_areas[lot]
        self.lot_areas[lot] = area
        return [old_area]

    def set_accepted_lots(self, order, lots):
        """Let an order accept another set of lots and answer the one it had."""
        if not self.has_order(order):
            return [NOT_THERE]
        if not self.has_lots(lots):
            return [OUT_OF_LIMITS]
        old_lots = self.order_lots[order]
        self.order_lots[order] = lots
        return [old_lots]

    def set_order_area(self, order, area):
        """Let an order want another area and answer the one it wanted."""
        if not self.has_order(order):
            return [NOT_THERE]
        if not is_order_area(area):
            return [OUT_OF_LIMITS]
        old_area = self.order_areas[order]
        self.order_areas[order] = area
        return [old_area]

    def swap_priorities(self, first, second):
        """Exchange two orders and answer 0."""
        if not self.has_order(first) or not self.has_order(second):
            return [NOT_THERE]
        area = self.order_areas[first]
        lots = self.order_lots[first]
        self.order_areas[first] = self.order_areas[second]
        self.order_lots[first] = self.order_lots[second]
        self.order_areas[second] = area
        self.order_lots[second] = lots
        return [0]

    def status(self):
        """Answer how many lots and orders there are, and the sums of their areas."""
        return [len(self.lot_areas), len(self.order_areas), sum(self.lot_areas), sum(self.order_areas)]
