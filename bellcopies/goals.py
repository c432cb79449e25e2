"""Goals: what logs of a web reach (point 14)."""

from bellcopies.common import at_first, check_count, is_row, smallest_way, weigh_steps
from bellcopies.errors import BadGoal
from bellcopies.webs import check_people, check_web, logged, next_rows


def is_goal_of(web, value):
    """Whether a value is a goal of the web."""
    return is_row(value, web[0], web[0], 1, web[0])


def check_goal(web, goal):
    """Raise BadGoal unless this is a goal of the web."""
    if not is_goal_of(web, goal):
        raise BadGoal("a goal is a tuple of as many people as there are")


def smallest_log(web, row, goal):
    """The smallest of the shortest logs that make the goal of a row, None if none does."""

    def is_goal(now):
        """Whether the log is at its goal."""
        return now == goal

    def after(now, index):
        """The row behind one entry more."""
        return logged(web, now, (index,))

    return smallest_way(row, is_goal, list(range(len(web[1]))), after)


def log_to(web, goal):
    """The smallest of the shortest logs behind which the row is the goal, None if there is none."""
    check_web(web)
    check_goal(web, goal)
    check_people(web, 4)
    return smallest_log(web, at_first(web[0]), goal)


def reached_count(web):
    """The number of goals that logs reach."""
    check_web(web)
    check_people(web, 4)
    return len(next_rows(web, at_first(web[0])))


def log_count(web, goal, many):
    """The number of logs of just so many entries that reach a goal."""
    check_web(web)
    check_goal(web, goal)
    check_count(many, 100)
    check_people(web, 4)
    first = at_first(web[0])
    following = next_rows(web, first)
    choices = [(index, 1) for index in range(len(web[1]))]
    counts = weigh_steps(first, choices, lambda row, index: following[row][index], many)
    return counts.get(goal, 0)
