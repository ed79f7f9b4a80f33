"""Boards of effects: what is armed, and the logs of how that came."""

from drawnanew.errors import ArmedTwice, NotArmed, OldValue
from drawnanew.forms import value_of
from drawnanew.needs import settings


class Effects:
    """A board of effects; its entries stand in the order in which they were armed."""

    def __init__(self):
        # For each pair of owner and word the value with which it was armed, and what it had seen then.
        self._armed = {}

    def bring(self, entries):
        """Bring the board up to date with these entries and return the log of this."""
        told = {}
        for owner, word, value, seen in entries:
            if (owner, word) in told:
                raise ArmedTwice(owner, word)
            told[(owner, word)] = (value, seen)
        return self._clean(told) + self._arm(told)

    def _clean(self, told):
        """Clean what is not told any more, or told with another seen; the rows of this."""
        gone = [pair for pair, (_, seen) in self._armed.items() if pair not in told or told[pair][1] != seen]
        rows = [("clean", owner, word, self._armed[(owner, word)][0]) for owner, word in gone[::-1]]
        for pair in gone:
            del self._armed[pair]
        return rows

    def _arm(self, told):
        """Arm what is told and not armed; the rows of this."""
        rows = []
        for (owner, word), (value, seen) in told.items():
            if (owner, word) not in self._armed:
                self._armed[(owner, word)] = (value, seen)
                rows.append(("arm", owner, word, value))
        return rows

    def armed(self):
        """The rows (owner, word, value) of what is armed, in the order in which it was armed."""
        return [(owner, word, value) for (owner, word), (value, _) in self._armed.items()]

    def copy(self):
        """A new board with the same entries."""
        twin = Effects()
        twin._armed = {pair: told for pair, told in self._armed.items()}
        return twin


def sound(log):
    """The rows that are armed behind the log, in the order in which they were armed."""
    armed = {}
    for deed, owner, word, value in log:
        pair = (owner, word)
        if deed == "arm":
            if pair in armed:
                raise ArmedTwice(owner, word)
            armed[pair] = value
        else:
            if pair not in armed:
                raise NotArmed(owner, word)
            if armed[pair] != value:
                raise OldValue(owner, word)
            del armed[pair]
    return [(owner, word, value) for (owner, word), value in armed.items()]


def behind(board, entries):
    """The rows (owner, word, armed, value) of the entries that are armed with another value."""
    armed = {(owner, word): value for owner, word, value in board.armed()}
    rows = []
    for owner, word, value, _ in entries:
        if (owner, word) in armed and armed[(owner, word)] != value:
            rows.append((owner, word, armed[(owner, word)], value))
    return rows


def parted(form, ranges, names):
    """The first two settings that agree on the names and give the form different values, or None."""
    firsts = []
    seconds = {}
    alike = {}
    for setting in settings(ranges):
        value = value_of(form, setting)
        shared = tuple([setting[name] for name, _ in ranges if name in names])
        if shared not in alike:
            alike[shared] = (len(firsts), value)
            firsts.append(setting)
        place, first = alike[shared]
        if value != first and place not in seconds:
            seconds[place] = setting
    for place, setting in enumerate(firsts):
        if place in seconds:
            return (setting, seconds[place])
    return None
