"""Two hands that use arcs by turns (point 26)."""

from bellcopies.common import at_first, check_count, check_person
from bellcopies.webs import check_people, check_web, next_rows


def forced_win(web, person, many):
    """The least number of turns behind which the first hand can make sure that all have said a person's sign.

    None if that takes more than so many turns, or if it never can.
    """
    check_web(web)
    check_person(web[0], person)
    check_count(many, 60)
    check_people(web, 3)
    following = next_rows(web, at_first(web[0]))
    # A hand that passes leaves the row as it is.
    choices = {row: rows + [row] for row, rows in following.items()}
    # For each row whether the win is sure behind so many turns, with the first or the second hand to begin.
    # Where all say one sign nothing changes, so that who has won once stays so.
    first_wins = {row: row == (person,) * web[0] for row in choices}
    second_wins = first_wins
    for turns in range(many + 1):
        if first_wins[at_first(web[0])]:
            return turns
        later = second_wins
        second_wins = {row: all([first_wins[new] for new in choices[row]]) for row in choices}
        first_wins = {row: any([later[new] for new in choices[row]]) for row in choices}
    return None
