"""Arcs without which a sign cannot come to somebody, and ways without a common arc (point 24)."""

from bellcopies.common import ascends, check_person, is_row, smallest_way
from bellcopies.errors import BadPerson
from bellcopies.webs import check_web, leads, reach


def check_ends(web, person, goal):
    """Raise an error unless these are a web and two unlike people of it."""
    check_web(web)
    check_person(web[0], person)
    check_person(web[0], goal)
    if person == goal:
        raise BadPerson("the two people are unlike")


def way_over(arcs, person, goal):
    """The indexes of the arcs of a shortest way, None if there is none; arcs is a dict from indexes to arcs."""

    def is_goal(at):
        """Whether the way is at its goal."""
        return at == goal

    def after(at, index):
        """Where an arc leads, which may be nowhere."""
        source, taker = arcs[index]
        return taker if source == at else at

    return smallest_way(person, is_goal, list(arcs), after)


def turned_where(web, used):
    """A dict from all indexes to the arcs, those in use turned."""
    return {index: (arc[::-1] if used[index] else arc) for index, arc in enumerate(web[1])}


def arcs_in_use(web, person, goal):
    """For each arc whether it is used, by as many ways from the person to the goal as can be apart."""
    used = [False] * len(web[1])
    indexes = way_over(turned_where(web, used), person, goal)
    # A way over a turned arc takes its use back, and so makes room for one way more.
    while indexes is not None:
        used = [busy != (index in indexes) for index, busy in enumerate(used)]
        indexes = way_over(turned_where(web, used), person, goal)
    return used


def fewest_arcs(web, person, goal):
    """The ascending tuple of as few arcs as can be that hinder a sign on its way from the person to the goal."""
    used = arcs_in_use(web, person, goal)
    near = reach(list(turned_where(web, used).values()), [person])
    # Each arc that leads out of these people is used by a way, and by each way just one of them.
    return tuple([index for index, (source, taker) in enumerate(web[1]) if source in near and taker not in near])


def hinder(web, person, goal):
    """As few arcs as can be without which the sign of the person cannot come to the goal."""
    check_ends(web, person, goal)
    return fewest_arcs(web, person, goal)


def ways_apart(web, person, goal):
    """As many ways from the person to the goal as can be without a common arc."""
    check_ends(web, person, goal)
    used = arcs_in_use(web, person, goal)
    left = {index: arc for index, arc in enumerate(web[1]) if used[index]}
    ways = []
    indexes = way_over(left, person, goal)
    while indexes is not None:
        ways.append(indexes)
        left = {index: left[index] for index in left if index not in indexes}
        indexes = way_over(left, person, goal)
    return tuple(ways)


def shows_hinder(web, person, goal, value):
    """Whether a value is as few arcs as can be that hinder a sign on its way."""
    check_ends(web, person, goal)
    fewest = len(fewest_arcs(web, person, goal))
    if not is_row(value, fewest, fewest, 0, len(web[1]) - 1) or not ascends(value):
        return False
    left = [arc for index, arc in enumerate(web[1]) if index not in value]
    return goal not in reach(left, [person])


def shows_ways_apart(web, person, goal, value):
    """Whether a value is as many ways as can be without a common arc."""
    check_ends(web, person, goal)
    if not isinstance(value, tuple) or len(value) != len(fewest_arcs(web, person, goal)):
        return False
    if not all(is_row(way, 1, len(web[1]), 0, len(web[1]) - 1) for way in value):
        return False
    indexes = [index for way in value for index in way]
    return len(set(indexes)) == len(indexes) and all(leads(web, way, person, goal) for way in value)
