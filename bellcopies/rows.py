"""People in a row, and the bells that let them take over signs (point 2)."""

from bellcopies.common import at_first, check_bells, check_signs, check_size


def behind(row, bell):
    """The row behind one bell."""
    return row[:bell - 1] + (row[bell - 2],) + row[bell:]


def rung(row, bells):
    """The row behind all bells, in their order."""
    for bell in bells:
        row = behind(row, bell)
    return row


def ring(size, bells):
    """For each person, whose first sign this person says behind all bells."""
    check_size(size)
    check_bells(size, bells)
    return rung(at_first(size), bells)


def said(signs, bells):
    """The signs said behind all bells, where these were said at first."""
    check_signs(signs, 2, 8)
    check_bells(len(signs), bells)
    return rung(signs, bells)


def sayings(signs, bells):
    """The signs said before the first bell and behind each."""
    check_signs(signs, 2, 8)
    check_bells(len(signs), bells)
    rows = [signs]
    for bell in bells:
        rows.append(behind(rows[-1], bell))
    return tuple(rows)
