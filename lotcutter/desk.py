"""The desk: a list of calls is handed in, a list of answers is given back."""

from lotcutter.codes import NO_STOCK
from lotcutter.priorities import cut_plan, leftovers, priority_amounts
from lotcutter.shortages import can_serve, can_serve_all, max_served, shortage, worst_set
from lotcutter.stocks import Stock
from lotcutter.supposed import gain_of_lot, max_served_with_lot, max_served_with_order

CREATE = 0
ADD_LOT = 1
ADD_ORDER = 2
REMOVE_ORDER = 3
GET_ORDER = 4
GET_LOT = 5
SET_LOT_AREA = 6
SET_ACCEPTED_LOTS = 7
SET_ORDER_AREA = 8
MAX_SERVED = 9
WORST_SET = 10
SHORTAGE = 11
CAN_SERVE = 12
PRIORITY_AMOUNTS = 13
CUT_PLAN = 14
LEFTOVERS = 15
CAN_SERVE_ALL = 16
MAX_SERVED_WITH_LOT = 17
MAX_SERVED_WITH_ORDER = 18
GAIN_OF_LOT = 19
SWAP_PRIORITIES = 20
STATUS = 21

# How many numbers stand behind the number of each call, from call 0 on.
# can_serve has 1 here, which tells how many more there are.
ARGUMENT_COUNTS = (0, 1, 2, 1, 1, 1, 2, 2, 2, 0, 0, 1, 1, 0, 0, 0, 0, 2, 2, 1, 2, 0)


def answers(calls):
    """Answer the calls one behind another; there is no stock at first."""
    stock = None
    given = []
    start = 0
    while start < len(calls):
        end = end_of_call(calls, start)
        call = calls[start:end]
        if call[0] == CREATE:
            stock = Stock([], [], [])
            numbers = [0]
        elif stock is None:
            numbers = [NO_STOCK]
        else:
            numbers = answer_to(stock, call)
        given.append(len(numbers))
        given.extend(numbers)
        start = end
    return given


def end_of_call(calls, start):
    """Give the place behind the call that begins at this place."""
    end = start + 1 + ARGUMENT_COUNTS[calls[start]]
    if calls[start] == CAN_SERVE:
        end += calls[start + 1]
    return end


def answer_to(stock, call):
    """Give the numbers that a call on a stock is answered with."""
    if call[0] in (MAX_SERVED, WORST_SET, SHORTAGE, CAN_SERVE, CAN_SERVE_ALL):
        return answer_of_shortages(stock, call)
    if call[0] in (PRIORITY_AMOUNTS, CUT_PLAN, LEFTOVERS):
        return answer_of_priorities(stock, call)
    if call[0] in (MAX_SERVED_WITH_LOT, MAX_SERVED_WITH_ORDER, GAIN_OF_LOT):
        return answer_of_supposed(stock, call)
    return answer_of_stock(stock, call)


def answer_of_shortages(stock, call):
    """Give the answer to a call that asks what sets of orders lack, or what can be served at all."""
    if call[0] == MAX_SERVED:
        return max_served(stock)
    if call[0] == WORST_SET:
        return worst_set(stock)
    if call[0] == SHORTAGE:
        return shortage(stock, call[1])
    if call[0] == CAN_SERVE:
        return can_serve(stock, call[2:])
    return can_serve_all(stock)


def answer_of_priorities(stock, call):
    """Give the answer to a call that asks how the orders are served by priority."""
    if call[0] == PRIORITY_AMOUNTS:
        return priority_amounts(stock)
    if call[0] == CUT_PLAN:
        return cut_plan(stock)
    return leftovers(stock)


def answer_of_supposed(stock, call):
    """Give the answer to a call that asks what could be served if something were different."""
    if call[0] == MAX_SERVED_WITH_LOT:
        return max_served_with_lot(stock, call[1], call[2])
    if call[0] == MAX_SERVED_WITH_ORDER:
        return max_served_with_order(stock, call[1], call[2])
    return gain_of_lot(stock, call[1])


def answer_of_stock(stock, call):
    """Give the answer to a call that the stock itself keeps or tells."""
    if call[0] == ADD_LOT:
        return stock.add_lot(call[1])
    if call[0] == ADD_ORDER:
        return stock.add_order(call[1], call[2])
    if call[0] == REMOVE_ORDER:
        return stock.remove_order(call[1])
    if call[0] == GET_ORDER:
        return stock.get_order(call[1])
    if call[0] == GET_LOT:
        return stock.get_lot(call[1])
    if call[0] == SET_LOT_AREA:
        return stock.set_lot_area(call[1], call[2])
    if call[0] == SET_ACCEPTED_LOTS:
        return stock.set_accepted_lots(call[1], call[2])
    if call[0] == SET_ORDER_AREA:
        return stock.set_order_area(call[1], call[2])
    if call[0] == SWAP_PRIORITIES:
        return stock.swap_priorities(call[1], call[2])
    # Every other call has been told apart by now, so this one is STATUS.
    return stock.status()
