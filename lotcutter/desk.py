"""The desk: a list of calls is handed in, a list of answers is given back."""

from lotcutter.codes import NO_STOCK
from lotcutter.shortages import max_served, worst_set
from lotcutter.stocks import Stock

CREATE = 0
ADD_LOT = 1
ADD_ORDER = 2
REMOVE_ORDER = 3
GET_ORDER = 4
GET_LOT = 5
SET_LOT_AREA = 6
SET_ACCEPTED_LOTS = 7
SET_ORDER_AREA = 8
MAX_SERVED = 9
WORST_SET = 10

# How many numbers stand behind the number of each call, from call 0 on.
ARGUMENT_COUNTS = (0, 1, 2, 1, 1, 1, 2, 2, 2, 0, 0)


def answers(calls):
    """Answer the calls one behind another; there is no stock at first."""
    stock = None
    given = []
    start = 0
    while start < len(calls):
        end = start + 1 + ARGUMENT_COUNTS[calls[start]]
        call = calls[start:end]
        if call[0] == CREATE:
            stock = Stock()
            numbers = [0]
        elif stock is None:
            numbers = [NO_STOCK]
        else:
            numbers = answer_to(stock, call)
        given.append(len(numbers))
        given.extend(numbers)
        start = end
    return given


def answer_to(stock, call):
    """Give the numbers that a call on a stock is answered with."""
    if call[0] == MAX_SERVED:
        return max_served(stock)
    if call[0] == WORST_SET:
        return worst_set(stock)
    return answer_of_stock(stock, call)


def answer_of_stock(stock, call):
    """Give the answer to a call that the stock itself keeps or tells."""
    if call[0] == ADD_LOT:
        return stock.add_lot(call[1])
    if call[0] == ADD_ORDER:
        return stock.add_order(call[1], call[2])
    if call[0] == REMOVE_ORDER:
        return stock.remove_order(call[1])
    if call[0] == GET_ORDER:
        return stock.get_order(call[1])
    if call[0] == GET_LOT:
        return stock.get_lot(call[1])
    if call[0] == SET_LOT_AREA:
        return stock.set_lot_area(call[1], call[2])
    if call[0] == SET_ACCEPTED_LOTS:
        return stock.set_accepted_lots(call[1], call[2])
    # Every other call has been told apart by now, so this one is SET_ORDER_AREA.
    return stock.set_order_area(call[1], call[2])
