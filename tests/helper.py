"""What the tests share: handing calls in, and splitting what is given back."""

from lotcutter.desk import answers

CREATE = [0]
MAX_SERVED = [9]
WORST_SET = [10]
BIGGEST = 4294967295


def add_lot(area):
    return [1, area]


def add_order(area, lots):
    return [2, area, lots]


def remove_order(order):
    return [3, order]


def get_order(order):
    return [4, order]


def get_lot(lot):
    return [5, lot]


def set_lot_area(lot, area):
    return [6, lot, area]


def set_accepted_lots(order, lots):
    return [7, order, lots]


def set_order_area(order, area):
    return [8, order, area]


def flat(calls):
    """The calls as the one list that the desk takes."""
    return [number for call in calls for number in call]


def split(given):
    """The answers, each a list, of the one list that the desk gives back."""
    found = []
    place = 0
    while place < len(given):
        end = place + 1 + given[place]
        if given[place] < 1 or end > len(given):
            raise AssertionError(f"no list of answers: {given}")
        found.append(given[place + 1:end])
        place = end
    return found


def ask(calls):
    """One answer, as a list, for each call."""
    given = answers(flat(calls))
    if type(given) is not list or any(type(number) is not int for number in given):
        raise AssertionError(f"no list of whole numbers: {given}")
    found = split(given)
    if len(found) != len(calls):
        raise AssertionError(f"{len(calls)} calls, but {len(found)} answers")
    return found


def stock_calls(lot_areas, orders):
    """The calls that make a stock of these lots and (area, lots) orders."""
    lot_calls = [add_lot(area) for area in lot_areas]
    return [CREATE] + lot_calls + [add_order(area, lots) for area, lots in orders]


def ask_on(lot_areas, orders, calls):
    """The answers of the calls alone, on a stock of these lots and orders."""
    start = stock_calls(lot_areas, orders)
    found = ask(start + calls)
    made = [[number] for number in [0, *range(len(lot_areas)), *range(len(orders))]]
    if found[:len(start)] != made:
        raise AssertionError(f"the stock was not made: {found[:len(start)]}")
    return found[len(start):]


def probes(lot_count, order_count):
    """The calls that tell all of a stock, and of what is one behind its last."""
    return (
        [get_lot(lot) for lot in range(lot_count + 1)]
        + [get_order(order) for order in range(order_count + 1)]
        + [MAX_SERVED, WORST_SET]
    )
