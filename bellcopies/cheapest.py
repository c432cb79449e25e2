"""The cheapest logs by which somebody wins, and papers that no log is cheaper (point 16)."""

from heapq import heappop, heappush

from bellcopies.common import ascends, at_first, check_person, is_row, is_whole
from bellcopies.errors import BadPrices
from bellcopies.webs import check_web, logged
from bellcopies.winning import led_into, springs_of


def check_prices(web, prices):
    """Raise BadPrices unless these are prices of the web's arcs."""
    many = len(web[1])
    if not is_row(prices, many, many, 0, 1000):
        raise BadPrices("prices are a tuple of integers from 0 to 1000, one for each arc")


def check_cheap(web, prices, person):
    """Raise an error unless these are a web, its prices and one of its people."""
    check_web(web)
    check_prices(web, prices)
    check_person(web[0], person)


def cheapest_win(web, prices, person):
    """The pair (price, log) of a cheapest log behind which all say a person's sign, None if there is none."""
    size, arcs = web
    done = set()
    # Whoever has the sign may keep it, so that it is enough to know who has it.
    queue = [(0, (), (person,))]
    while queue:
        price, log, people = heappop(queue)
        if len(people) == size:
            return price, log
        if people not in done:
            done.add(people)
            for index, (source, taker) in enumerate(arcs):
                if source in people and taker not in people:
                    more = tuple(sorted(people + (taker,)))
                    heappush(queue, (price + prices[index], log + (index,), more))
    return None


def is_log_for(web, prices, price, row, value):
    """Whether a value is a pair of this price and of a log that costs just so much and makes this row."""
    if not isinstance(value, tuple) or len(value) != 2:
        return False
    cost, log = value
    if not is_whole(cost, price, price) or not is_row(log, 0, 60, 0, len(web[1]) - 1):
        return False
    return sum([prices[index] for index in log]) == price and logged(web, at_first(web[0]), log) == row


def weighted_sets(web, prices, person):
    """The list of the pairs (people, weight) of a paper, for a person who can win."""
    size, arcs = web
    left = list(prices)
    pairs = []
    while True:
        free = tuple([arc for arc, price in zip(arcs, left) if price == 0])
        # Only sets with no smaller one within them make the weights sum up to the whole price.
        waiting = [people for people in springs_of((size, free)) if person not in people]
        if not waiting:
            return pairs
        indexes = led_into(web, waiting[0])
        weight = min([left[index] for index in indexes])
        pairs.append((waiting[0], weight))
        for index in indexes:
            left[index] -= weight


def is_weighted_set(size, person, most, value):
    """Whether a value is a pair of people without the person, and of a weight that is not above the most."""
    if not isinstance(value, tuple) or len(value) != 2:
        return False
    people, weight = value
    if not is_row(people, 1, size, 1, size) or not ascends(people) or person in people:
        return False
    return is_whole(weight, 1, most)


def fits_prices(web, prices, pairs):
    """Whether the sets that an arc leads into never weigh more than its price."""
    weights = [0] * len(prices)
    for people, weight in pairs:
        for index in led_into(web, people):
            weights[index] += weight
    return all(weight <= price for weight, price in zip(weights, prices))


def cheap_win(web, prices, person):
    """The pair (price, log) of a cheapest log behind which all say a person's sign, None if there is none."""
    check_cheap(web, prices, person)
    return cheapest_win(web, prices, person)


def cheap_paper(web, prices, person):
    """Weighted sets of people which show that no log is cheaper, None if nothing makes the person win."""
    check_cheap(web, prices, person)
    if cheapest_win(web, prices, person) is None:
        return None
    return tuple(weighted_sets(web, prices, person))


def shows_cheap_win(web, prices, person, value):
    """Whether a value is the price of a cheapest log and such a log, or rightly None."""
    check_cheap(web, prices, person)
    best = cheapest_win(web, prices, person)
    if best is None:
        return value is None
    return is_log_for(web, prices, best[0], (person,) * web[0], value)


def shows_cheap_paper(web, prices, person, value):
    """Whether a value shows that no log is cheaper, or is rightly None."""
    check_cheap(web, prices, person)
    best = cheapest_win(web, prices, person)
    if best is None:
        return value is None
    if not isinstance(value, tuple) or not all(is_weighted_set(web[0], person, best[0], pair) for pair in value):
        return False
    if len({people for people, _ in value}) != len(value) or sum([weight for _, weight in value]) != best[0]:
        return False
    return fits_prices(web, prices, value)
