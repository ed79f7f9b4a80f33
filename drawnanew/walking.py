"""Walks: all rows of events of two machines, gone through as long as they lead to new stands."""

from drawnanew.errors import TooMany
from drawnanew.sessions import kept_likeness, listed_events

MOST_STANDS = 600


def _stepped(machine, event):
    """A new machine that stands as this one does behind the event."""
    twin = machine.copy()
    twin.do(event)
    return twin


def walk(first, second, kinds, parting, likeness):
    """The first row of events of these kinds behind which two machines part, the word of that, and all stands.

    The first machine is a kept one, by which the events are listed. What the word of a parting is and what tells the
    stands of the second machine apart, two functions say. Row and word are None if the machines part nowhere;
    otherwise there are no stands. A stand is its first row with the numbers of the stands behind its events.
    """
    word = parting(first, second)
    if word is not None:
        return ([], word, [])
    pairs = [(first, second, [])]
    known = {(kept_likeness(first), likeness(second)): 0}
    stands = []
    while len(stands) < len(pairs):
        kept, other, row = pairs[len(stands)]
        numbers = []
        for event in listed_events(kept, kinds):
            one, two = _stepped(kept, event), _stepped(other, event)
            word = parting(one, two)
            if word is not None:
                return (row + [event], word, [])
            told = (kept_likeness(one), likeness(two))
            if told not in known:
                if len(pairs) == MOST_STANDS:
                    raise TooMany(MOST_STANDS + 1)
                known[told] = len(pairs)
                pairs.append((one, two, row + [event]))
            numbers.append(known[told])
        stands.append((row, tuple(numbers)))
    return (None, None, stands)
