"""What it costs to take out arcs, and streams that show it (point 30)."""

from bellcopies.cheapest import check_prices
from bellcopies.common import ascends, is_row, is_whole
from bellcopies.hindering import check_ends, hindering_arcs, strongest_stream
from bellcopies.webs import check_web, reach


def check_stream(web, prices, person, goal):
    """Raise an error unless these are a web, its prices and two unlike people of it."""
    check_web(web)
    check_prices(web, prices)
    check_ends(web, person, goal)


def cheapest_hinder(web, prices, person, goal):
    """The pair (price, arcs) of arcs as cheap as can be without which no sign comes from the person to the goal."""
    arcs = hindering_arcs(web, prices, person, goal)
    return sum([prices[index] for index in arcs]), arcs


def surplus(web, stream, person):
    """How much more goes out from a person than comes in."""
    more = 0
    for (source, taker), amount in zip(web[1], stream):
        if source == person:
            more += amount
        if taker == person:
            more -= amount
    return more


def cheap_hinder(web, prices, person, goal):
    """The pair (price, arcs) of arcs as cheap as can be without which no sign comes from the person to the goal."""
    check_stream(web, prices, person, goal)
    return cheapest_hinder(web, prices, person, goal)


def streams(web, prices, person, goal):
    """For each arc how much streams over it, at most its price, and that least price from the person to the goal."""
    check_stream(web, prices, person, goal)
    return tuple(strongest_stream(web, prices, person, goal))


def shows_cheap_hinder(web, prices, person, goal, value):
    """Whether a value is a pair (price, arcs) of arcs as cheap as can be that hinder a sign on its way."""
    check_stream(web, prices, person, goal)
    least, _ = cheapest_hinder(web, prices, person, goal)
    if not isinstance(value, tuple) or len(value) != 2 or not is_whole(value[0], least, least):
        return False
    many = len(web[1])
    if not is_row(value[1], 0, many, 0, many - 1) or not ascends(value[1]):
        return False
    if sum([prices[index] for index in value[1]]) != least:
        return False
    left = [arc for index, arc in enumerate(web[1]) if index not in value[1]]
    return goal not in reach(left, [person])


def shows_streams(web, prices, person, goal, value):
    """Whether a value tells for each arc how much streams over it, so that the least price goes to the goal."""
    check_stream(web, prices, person, goal)
    many = len(web[1])
    if not is_row(value, many, many, 0, 1000) or not all(part <= price for part, price in zip(value, prices)):
        return False
    others = [other for other in range(1, web[0] + 1) if other not in (person, goal)]
    if any(surplus(web, value, other) != 0 for other in others):
        return False
    least, _ = cheapest_hinder(web, prices, person, goal)
    return surplus(web, value, person) == least
