"""Beats, in which all take over at once (point 17)."""

from bellcopies.common import at_first, check_person
from bellcopies.goals import check_goal
from bellcopies.webs import check_people, check_web, spread


def behind_beat(web, row):
    """The list of all rows that may be there one beat behind this one."""
    rows = [()]
    for person in range(1, web[0] + 1):
        signs = [row[person - 1]] + [row[source - 1] for source, taker in web[1] if taker == person]
        rows = [start + (sign,) for start in rows for sign in sorted(set(signs))]
    return rows


def beat_win(web, person):
    """The least number of beats behind which all say a person's sign, None if there is none."""
    check_web(web)
    check_person(web[0], person)
    beats = 0
    people = [person]
    while len(people) < web[0]:
        more = spread(web[1], people)
        if more == people:
            return None
        people = more
        beats += 1
    return beats


def beats_to(web, goal):
    """The least number of beats behind which all say the signs of a goal, None if there is none."""
    check_web(web)
    check_goal(web, goal)
    check_people(web, 4)
    first = at_first(web[0])
    beats = {first: 0}
    level = [first]
    while level and goal not in beats:
        following = []
        for row in level:
            for new in behind_beat(web, row):
                if new not in beats:
                    beats[new] = beats[row] + 1
                    following.append(new)
        level = following
    return beats.get(goal)
