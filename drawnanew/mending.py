"""Mends: the weak marks that must be mended, and houses that look alike."""

from drawnanew.choosing import least_sets
from drawnanew.errors import TooMany
from drawnanew.judging import judge
from drawnanew.marks import mended, weak_marks
from drawnanew.sessions import KINDS, first_parting, kept_likeness, kept_machine
from drawnanew.walking import walk

MOST_WEAK = 5


def mends(house, kinds=KINDS):
    """The list of the least mends of the house for events of these kinds."""
    weak = weak_marks(house)
    if len(weak) > MOST_WEAK:
        raise TooMany(len(weak))
    return least_sets(weak, lambda marks: judge(mended(house, *marks), kinds).right)


def _part_at_rest(first, second):
    """The word of the part in which the looks of two kept machines differ while both are at rest, or None."""
    if first.queue or second.queue:
        return None
    return first_parting(first.look(), second.look())


def alike(first, second, kinds=KINDS):
    """None, or the first row of events behind which the looks of both houses differ at rest."""
    row, _, _ = walk(kept_machine(first), kept_machine(second), kinds, _part_at_rest, kept_likeness)
    return row
