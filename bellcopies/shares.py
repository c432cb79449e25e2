"""Shares of arcs that chances tell (point 35).

The share of an arc times the chance of the person to whom it leads is what flows over it, and such
flows go round: as much comes to each person as goes from there.
"""

from math import lcm

from bellcopies.common import are_ratios, is_ratio, ratio, weights_of
from bellcopies.errors import BadChances
from bellcopies.hindering import send_along, steps_left
from bellcopies.webs import check_web


def are_parts(value, many):
    """Whether a value is a tuple of so many ratios from 0 on with the sum 1."""
    if not are_ratios(value, many):
        return False
    weights, whole = weights_of(value)
    return sum(weights) == whole and all(weight >= 0 for weight in weights)


def check_chances(web, chances):
    """Raise an error unless these are a web and chances of its people."""
    check_web(web)
    if not are_parts(chances, web[0]) or any(bottom > 60 for _, bottom in chances):
        raise BadChances("chances are ratios with bottoms of at most 60 and the sum 1, one for each person")


def weights_to(web, chances):
    """The list of the weights of those to whom the arcs lead: their chances as integers over one bottom."""
    weights, _ = weights_of(chances)
    return [weights[taker - 1] for _, taker in web[1]]


def parts_of_flow(rooms):
    """The pair of the part of an arc that is full, and of a list of what each arc gets for one unit that flows."""
    full = 1
    for room in rooms:
        full = lcm(full, max(room, 1))
    return full, [full // max(room, 1) for room in rooms]


def longer_walks(walks, steps, gains):
    """The best walks of one step more, as a dict from (first, last person) to (gain, steps)."""
    longer = {}
    for (first, last), (gain, way) in walks.items():
        for step, (source, taker) in steps.items():
            if source == last:
                more = gain + (gains[step] if step >= 0 else -gains[-1 - step])
                if (first, taker) not in longer or more > longer[(first, taker)][0]:
                    longer[(first, taker)] = (more, way + (step,))
    return longer


def gaining_round(size, steps, gains):
    """The steps of a shortest way around that gains, None if there is none."""
    people = list(range(1, size + 1))
    walks = {(person, person): (0, ()) for person in people}
    for _ in people:
        walks = longer_walks(walks, steps, gains)
        for person in people:
            gain, way = walks.get((person, person), (0, ()))
            # A way that comes through somebody twice would hold a shorter one that gains.
            if gain > 0:
                return way
    return None


def evenest_shares(web, chances):
    """The pair (most, shares) of shares that nowhere exceed the least ratio that can be, None if there are none."""
    rooms = weights_to(web, chances)
    full, gains = parts_of_flow(rooms)
    flow = [0] * len(rooms)
    steps = gaining_round(web[0], steps_left(web, rooms, flow), gains)
    # The greater the sum of the parts, none of which is above a full one, the less of it is a full one.
    while steps is not None:
        send_along(rooms, flow, steps)
        steps = gaining_round(web[0], steps_left(web, rooms, flow), gains)
    # To people without a chance nothing flows, whatever the share.
    parts = [amount * gain if room > 0 else full for amount, gain, room in zip(flow, gains, rooms)]
    whole = sum(parts)
    if whole == 0:
        return None
    return ratio(full, whole), tuple([ratio(part, whole) for part in parts])


def are_shares(web, chances, value):
    """Whether a value is shares for these chances."""
    if not are_parts(value, len(web[1])):
        return False
    weights, _ = weights_of(chances)
    parts, _ = weights_of(value)
    flow = [0] * web[0]
    for (source, taker), part in zip(web[1], parts):
        flow[taker - 1] += part * weights[taker - 1]
        flow[source - 1] -= part * weights[taker - 1]
    return all(more == 0 for more in flow)


def is_paper(web, chances, value):
    """Whether a value shows that there are no shares."""
    if not are_ratios(value, web[0]):
        return False
    weights, whole = weights_of(chances)
    heights, unit = weights_of(value)
    rises = [weights[taker - 1] * (heights[taker - 1] - heights[source - 1]) for source, taker in web[1]]
    return all(rise >= whole * unit for rise in rises)


def shares_for(web, chances):
    """Shares for these chances, None if there are none."""
    check_chances(web, chances)
    found = evenest_shares(web, chances)
    return None if found is None else found[1]


def shares_paper(web, chances):
    """Ratios of the people that show that there are no shares, None if there are some."""
    check_chances(web, chances)
    if evenest_shares(web, chances) is not None:
        return None
    _, whole = weights_of(chances)
    full, gains = parts_of_flow(weights_to(web, chances))
    heights = [0] * web[0]
    # Without shares no way leads round, so that behind this all arcs rise as they have to.
    for _ in range(web[0]):
        for (source, taker), gain in zip(web[1], gains):
            heights[taker - 1] = max(heights[taker - 1], heights[source - 1] + whole * gain)
    return tuple([ratio(height, full) for height in heights])


def evenest(web, chances):
    """The pair (most, shares) of shares that nowhere exceed the least ratio that can be, None if there are none."""
    check_chances(web, chances)
    return evenest_shares(web, chances)


def shows_shares(web, chances, value):
    """Whether a value is shares for these chances, or rightly None."""
    check_chances(web, chances)
    if value is None:
        return evenest_shares(web, chances) is None
    return are_shares(web, chances, value)


def shows_shares_paper(web, chances, value):
    """Whether a value shows that there are no shares, or is rightly None."""
    check_chances(web, chances)
    if value is None:
        return evenest_shares(web, chances) is not None
    return is_paper(web, chances, value)


def shows_evenest(web, chances, value):
    """Whether a value is the least ratio that shares need not exceed and such shares, or rightly None."""
    check_chances(web, chances)
    best = evenest_shares(web, chances)
    if best is None:
        return value is None
    if not isinstance(value, tuple) or len(value) != 2 or not is_ratio(value[0]) or value[0] != best[0]:
        return False
    top, bottom = best[0]
    return are_shares(web, chances, value[1]) and all(part[0] * bottom <= top * part[1] for part in value[1])
