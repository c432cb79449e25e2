"""Who can win: whose sign all can come to say (point 15)."""

from bellcopies.common import ascends, check_person, is_row
from bellcopies.webs import check_web, reach


def winners_of(web):
    """The ascending list of the people whose sign all can come to say."""
    size, arcs = web
    return [person for person in range(1, size + 1) if len(reach(arcs, [person])) == size]


def closed_around(web, people):
    """The ascending list of the people of the least closed set that has all of these."""
    turned = [(taker, source) for source, taker in web[1]]
    return reach(turned, people)


def springs_of(web):
    """The ascending list of the springs."""
    closures = [closed_around(web, [person]) for person in range(1, web[0] + 1)]
    found = []
    for people in closures:
        if tuple(people) not in found and all(closures[person - 1] == people for person in people):
            found.append(tuple(people))
    return sorted(found)


def led_into(web, people):
    """The ascending list of the indexes of the arcs that lead into a set of people from outside."""
    return [index for index, (source, taker) in enumerate(web[1]) if taker in people and source not in people]


def all_groups(size):
    """All ascending tuples of people, in no order."""
    groups = [()]
    for person in range(1, size + 1):
        groups = groups + [group + (person,) for group in groups]
    return groups


def closed_groups(web):
    """The list of all closed ascending tuples of people, in no order."""
    return [group for group in all_groups(web[0]) if not led_into(web, group)]


def is_closed_group(web, value):
    """Whether a value is an ascending tuple of people, not empty and closed."""
    return is_row(value, 1, web[0], 1, web[0]) and ascends(value) and not led_into(web, value)


def winners(web):
    """The ascending tuple of the people whose sign all can come to say."""
    check_web(web)
    return tuple(winners_of(web))


def win_log(web, person):
    """The smallest of the shortest logs behind which all say a person's sign, None if there is none."""
    check_web(web)
    check_person(web[0], person)
    people = [person]
    log = []
    # A shortest log has one entry for each other person, so each entry brings the sign to a new one;
    # and whoever has it, the others can still be reached, so that the smallest entry is never wrong.
    while len(people) < web[0]:
        indexes = [
            index for index, (source, taker) in enumerate(web[1]) if source in people and taker not in people
        ]
        if not indexes:
            return None
        log.append(indexes[0])
        people.append(web[1][indexes[0]][1])
    return tuple(log)


def springs(web):
    """The ascending tuple of the springs: closed sets of people with no smaller one within them."""
    check_web(web)
    return tuple(springs_of(web))


def least_left(web):
    """The least number of signs that may be left."""
    check_web(web)
    return len(springs_of(web))


def closed_count(web):
    """The number of closed sets of people, the empty one and that of all too."""
    check_web(web)
    return len(closed_groups(web))


def parted(web):
    """Two closed sets of people with nobody in both, None if somebody can win."""
    check_web(web)
    found = springs_of(web)
    # From a single spring everybody can be reached, so that each of its people can win.
    return (found[0], found[1]) if len(found) > 1 else None


def shows_parted(web, value):
    """Whether a value is a pair of closed sets of people with nobody in both, or rightly None."""
    check_web(web)
    if value is None:
        return len(winners_of(web)) > 0
    if not isinstance(value, tuple) or len(value) != 2:
        return False
    if not is_closed_group(web, value[0]) or not is_closed_group(web, value[1]):
        return False
    return not any(person in value[1] for person in value[0])
