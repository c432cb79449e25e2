"""Starts that tell apart the goals that logs reach (point 32)."""

from bellcopies.common import at_first, followed
from bellcopies.goals import is_goal_of
from bellcopies.starts import check_rows_of_signs
from bellcopies.webs import check_people, check_web, next_rows


def check_web_starts(web, starts):
    """Raise an error unless these are a web and starts of as many signs, and not too many people."""
    check_web(web)
    check_rows_of_signs(web[0], starts)
    check_people(web, 4)


def made_of(starts, goal):
    """What a goal makes of each start."""
    return tuple([followed(signs, goal) for signs in starts])


def first_twins(web, starts):
    """Two unlike goals that logs reach and that make the same of all starts, None if there are none."""
    found = {}
    for goal in sorted(next_rows(web, at_first(web[0]))):
        rows = made_of(starts, goal)
        if rows in found:
            return found[rows], goal
        found[rows] = goal
    return None


def tells_goals(web, starts):
    """Whether no two goals that logs reach make the same of all starts."""
    check_web_starts(web, starts)
    return first_twins(web, starts) is None


def goal_twins(web, starts):
    """Two unlike goals that logs reach and that make the same of all starts, None if there are none."""
    check_web_starts(web, starts)
    return first_twins(web, starts)


def shows_goal_twins(web, starts, value):
    """Whether a value is a pair of unlike goals that logs reach and that do the same, or rightly None."""
    check_web_starts(web, starts)
    if value is None:
        return first_twins(web, starts) is None
    if not isinstance(value, tuple) or len(value) != 2:
        return False
    one, other = value
    if not is_goal_of(web, one) or not is_goal_of(web, other) or one == other:
        return False
    reached = next_rows(web, at_first(web[0]))
    return one in reached and other in reached and made_of(starts, one) == made_of(starts, other)
