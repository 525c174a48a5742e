"""What the tests share: handing calls in, splitting what is given back, stocks to try, and slow counts."""

from lotcutter.desk import answers

CREATE = [0]
MAX_SERVED = [9]
WORST_SET = [10]
PRIORITY_AMOUNTS = [13]
CUT_PLAN = [14]
LEFTOVERS = [15]
CAN_SERVE_ALL = [16]
STATUS = [21]
BIGGEST = 4294967295


def add_lot(area):
    return [1, area]


def add_order(area, lots):
    return [2, area, lots]


def remove_order(order):
    return [3, order]


def get_order(order):
    return [4, order]


def get_lot(lot):
    return [5, lot]


def set_lot_area(lot, area):
    return [6, lot, area]


def set_accepted_lots(order, lots):
    return [7, order, lots]


def set_order_area(order, area):
    return [8, order, area]


def shortage(orders):
    return [11, orders]


def can_serve(amounts):
    return [12, len(amounts), *amounts]


def max_served_with_lot(lot, area):
    return [17, lot, area]


def max_served_with_order(area, lots):
    return [18, area, lots]


def gain_of_lot(lot):
    return [19, lot]


def swap_priorities(first, second):
    return [20, first, second]


def flat(calls):
    """The calls as the one list that the desk takes."""
    return [number for call in calls for number in call]


def split(given):
    """The answers, each a list, of the one list that the desk gives back."""
    found = []
    place = 0
    while place < len(given):
        end = place + 1 + given[place]
        if given[place] < 1 or end > len(given):
            raise AssertionError(f"no list of answers: {given}")
        found.append(given[place + 1:end])
        place = end
    return found


def ask(calls):
    """One answer, as a list, for each call."""
    if len(calls) > 60 or len(flat(calls)) > 600:
        raise AssertionError(f"longer than any list that may be handed in: {len(calls)} calls")
    given = answers(flat(calls))
    if type(given) is not list or any(type(number) is not int for number in given):
        raise AssertionError(f"no list of whole numbers: {given}")
    found = split(given)
    if len(found) != len(calls):
        raise AssertionError(f"{len(calls)} calls, but {len(found)} answers")
    return found


def stock_calls(lot_areas, orders):
    """The calls that make a stock of these lots and (area, lots) orders."""
    lot_calls = [add_lot(area) for area in lot_areas]
    return [CREATE] + lot_calls + [add_order(area, lots) for area, lots in orders]


def ask_on(lot_areas, orders, calls):
    """The answers of the calls alone, on a stock of these lots and orders."""
    start = stock_calls(lot_areas, orders)
    found = ask(start + calls)
    made = [[number] for number in [0, *range(len(lot_areas)), *range(len(orders))]]
    if found[:len(start)] != made:
        raise AssertionError(f"the stock was not made: {found[:len(start)]}")
    return found[len(start):]


def probes(lot_count, order_count):
    """The calls that tell all of a stock, and of what is one behind its last."""
    return (
        [get_lot(lot) for lot in range(lot_count + 1)]
        + [get_order(order) for order in range(order_count + 1)]
        + [MAX_SERVED, WORST_SET, CUT_PLAN, STATUS]
    )


def accepts(orders, order, lot):
    return (orders[order][1] // 2 ** lot) % 2 == 1


def slow_shortage(lot_areas, orders, chosen):
    """The shortage of the orders with the chosen numbers, what they want, and what is available."""
    wanted = sum(orders[order][0] for order in chosen)
    available = 0
    for lot, area in enumerate(lot_areas):
        if any(accepts(orders, order, lot) for order in chosen):
            available += area
    return [max(wanted - available, 0), wanted, available]


def slow_max_served(lot_areas, orders):
    """The greatest total area of a cut plan, found by cutting unit after unit."""
    left = list(lot_areas)
    cuts = [[0] * len(lot_areas) for _ in orders]
    total = 0
    for order, (area, _) in enumerate(orders):
        for _ in range(area):
            if not cut_one_more(left, cuts, orders, order, set()):
                break
            total += 1
    return total


def cut_one_more(left, cuts, orders, order, tried):
    """Cut one more unit for the order, if need be by moving others to other lots."""
    for lot in range(len(left)):
        if lot in tried or not accepts(orders, order, lot):
            continue
        tried.add(lot)
        if left[lot] > 0:
            left[lot] -= 1
            cuts[order][lot] += 1
            return True
        for other in range(len(orders)):
            if cuts[other][lot] > 0 and cut_one_more(left, cuts, orders, other, tried):
                cuts[other][lot] -= 1
                cuts[order][lot] += 1
                return True
    return False


def some_stocks(count, lot_counts, order_counts, most_lot_area, most_order_area):
    """Stocks of many kinds, the same ones at each run."""
    seed = 20231
    stocks = []

    def draw(limit):
        nonlocal seed
        seed = (seed * 1103515245 + 12345) % 2 ** 31
        return (seed // 2 ** 12) % limit

    for _ in range(count):
        lot_count = lot_counts[draw(len(lot_counts))]
        order_count = order_counts[draw(len(order_counts))]
        lot_areas = [draw(most_lot_area + 1) for _ in range(lot_count)]
        orders = [(1 + draw(most_order_area), draw(2 ** lot_count)) for _ in range(order_count)]
        stocks.append((lot_areas, orders))
    return stocks
