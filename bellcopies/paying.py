"""Cheapest moves to rising rows and cheapest logs to goals (point 33)."""

from bellcopies.cheapest import check_prices, is_log_for
from bellcopies.common import at_first, cheapest_ways, check_size, is_row, is_whole
from bellcopies.errors import BadPrices, BadRising, TooMany
from bellcopies.goals import check_goal
from bellcopies.moves import all_moves, are_moves, behind_move, is_rising, moved
from bellcopies.webs import check_people, check_web, next_rows


def check_cheap_moves(size, prices, rising):
    """Raise an error unless these are a size, prices of its moves and a rising row of it."""
    check_size(size)
    many = 2 * size - 2
    if not is_row(prices, many, many, 0, 1000):
        raise BadPrices("prices are a tuple of integers from 0 to 1000, one for each move")
    if not is_rising(rising) or len(rising) != size:
        raise BadRising("this is not a rising row of this size")
    if size > 5:
        raise TooMany(5)


def check_cheap_goal(web, prices, goal):
    """Raise an error unless these are a web, its prices and a goal, and not too many people."""
    check_web(web)
    check_prices(web, prices)
    check_goal(web, goal)
    check_people(web, 4)


def cheapest_moves(size, prices, rising):
    """The pair (price, moves) of a cheapest row of moves with a rising row."""
    priced = list(zip(all_moves(size), prices))
    return cheapest_ways(at_first(size), priced, behind_move, 40)[rising]


def cheapest_log(web, prices, goal):
    """The pair (price, log) of a cheapest log that reaches a goal, None if none does."""
    first = at_first(web[0])
    following = next_rows(web, first)
    priced = list(enumerate(prices))
    return cheapest_ways(first, priced, lambda row, index: following[row][index], 60).get(goal)


def cheap_moves(size, prices, rising):
    """The pair (price, moves) of a cheapest row of moves with a rising row."""
    check_cheap_moves(size, prices, rising)
    return cheapest_moves(size, prices, rising)


def cheap_goal(web, prices, goal):
    """The pair (price, log) of a cheapest log that reaches a goal, None if none does."""
    check_cheap_goal(web, prices, goal)
    return cheapest_log(web, prices, goal)


def shows_cheap_moves(size, prices, rising, value):
    """Whether a value is the price of a cheapest row of moves with a rising row, and such moves."""
    check_cheap_moves(size, prices, rising)
    least, _ = cheapest_moves(size, prices, rising)
    if not isinstance(value, tuple) or len(value) != 2 or not is_whole(value[0], least, least):
        return False
    if not are_moves(size, value[1]):
        return False
    price_of = dict(zip(all_moves(size), prices))
    return sum([price_of[move] for move in value[1]]) == least and moved(at_first(size), value[1]) == rising


def shows_cheap_goal(web, prices, goal, value):
    """Whether a value is the price of a cheapest log that reaches a goal, and such a log, or rightly None."""
    check_cheap_goal(web, prices, goal)
    best = cheapest_log(web, prices, goal)
    if best is None:
        return value is None
    return is_log_for(web, prices, best[0], goal, value)
