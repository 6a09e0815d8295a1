"""Prices: bought plans, in which looks are paid like deeds, at the least price in the worst case."""

from halfseen.crowds import parted
from halfseen.errors import BadPrices
from halfseen.finding import cost_at_worst, costs_of, plan_of, reached_from, steps_of, ways_with
from halfseen.works import begin_of, checked, deeds_of, is_number, is_row, looks_of

LEAST_PRICE = 1
MOST_PRICE = 20


def is_price_row(thing, many):
    return is_row(thing, many, many) and all([is_number(price, LEAST_PRICE, MOST_PRICE) for price in thing])


def checked_prices(works, prices):
    if not is_row(prices, 2, 2):
        raise BadPrices("prices are a tuple of two tuples")
    if not is_price_row(prices[0], len(deeds_of(works))) or not is_price_row(prices[1], len(looks_of(works))):
        raise BadPrices("a deed or a look has no price from 1 to 20")
    return prices


# Here one goes on by a tuple: "do" or "look", its number and its price. Behind a deed nothing is
# seen, as all looks are to be bought: there is one row alone.
def deeds_to_buy(works, prices, crowd):
    return [(("do", deed, prices[0][deed]), rows) for deed, rows in ways_with(works, (), crowd)]


def looks_to_buy(works, prices, crowd):
    found = [(("look", look, price), parted(works, (look,), crowd)) for look, price in enumerate(prices[1])]
    return [way for way in found if len(way[1]) > 1]


def ways_to_buy(works, prices, crowd):
    return deeds_to_buy(works, prices, crowd) + looks_to_buy(works, prices, crowd)


def price_by(way, costs):
    most = cost_at_worst(way[1], costs)
    return None if most is None else most + way[0][2]


def bought_step(way, steps):
    rows = plan_of(way[1], steps)
    if way[0][0] == "do":
        return ("do", way[0][1], rows[0][1])
    return ("look", way[0][1], tuple([(seen[0], step) for seen, step in rows]))


def reach_by_buying(works, prices):
    return reached_from([begin_of(works)], lambda crowd: ways_to_buy(works, prices, crowd))


def cheapest(works, prices):
    checked(works)
    checked_prices(works, prices)
    costs = costs_of(works, reach_by_buying(works, prices), price_by)
    return costs.get(begin_of(works))


def a_bought_plan(works, prices):
    checked(works)
    checked_prices(works, prices)
    reach = reach_by_buying(works, prices)
    costs = costs_of(works, reach, price_by)
    return steps_of(reach, costs, price_by, bought_step).get(begin_of(works))
