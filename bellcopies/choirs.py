"""Choirs, which keep what all say (point 28)."""

from bellcopies.common import at_first, check_person, is_whole
from bellcopies.errors import BadArc, BadSign, NothingToUndo, TooLong
from bellcopies.webs import check_web, logged


class Choir:
    """What the people of a web say, each at first the own sign."""

    def __init__(self, web):
        check_web(web)
        self.web = web
        # What is said and the log so far, at first and behind each take and speak.
        self.past = [(at_first(web[0]), ())]

    def take(self, index):
        """Use an arc; the tuple of what is said then."""
        row, entries = self.past[-1]
        if not is_whole(index, 0, len(self.web[1]) - 1):
            raise BadArc("this is not the index of an arc")
        if len(entries) == 60:
            raise TooLong("a log has at most 60 entries")
        following = logged(self.web, row, (index,))
        self.past.append((following, entries + (index,)))
        return following

    def says(self):
        """The tuple of what is said now."""
        return self.past[-1][0]

    def log(self):
        """The log so far."""
        return self.past[-1][1]

    def speak(self, person, sign):
        """Let a person say a sign of its own from now on."""
        check_person(self.web[0], person)
        if not is_whole(sign, 1, 99):
            raise BadSign("a sign of one's own is an integer from 1 to 99")
        row, entries = self.past[-1]
        self.past.append((row[:person - 1] + (sign,) + row[person:], entries))

    def undo(self):
        """Take back the last take or speak that has not been taken back."""
        if len(self.past) == 1:
            raise NothingToUndo("there is nothing to take back")
        self.past.pop()
