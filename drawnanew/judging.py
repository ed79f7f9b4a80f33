"""Verdicts: whether a house is right for all rows of events, and what is to blame if it is not."""

from drawnanew.anew import new_likeness, new_machine
from drawnanew.errors import Blamed, Wrong
from drawnanew.marks import mended, weak_marks
from drawnanew.sessions import KINDS, kept_machine, machines_part
from drawnanew.walking import walk


class Verdict:
    """Whether a house is right: with all stands if it is, otherwise with the first wrong row."""

    def __init__(self, row, what, stands):
        self.right = row is None
        self.row = row
        self.what = what
        self.stands = stands


def judge(house, kinds=KINDS):
    """The verdict on the house for events of these kinds."""
    row, what, stands = walk(kept_machine(house), new_machine(house), kinds, machines_part, new_likeness)
    return Verdict(row, what, stands)


def wrong_at(house, row):
    """The number of events behind which both machines first disagree, or None."""
    kept, new = kept_machine(house), new_machine(house)
    if machines_part(kept, new) is not None:
        return 0
    for many, event in enumerate(row, start=1):
        kept.do(event)
        new.do(event)
        if machines_part(kept, new) is not None:
            return many
    return None


def blame(house, row):
    """The first weak mark without which the row is not wrong, or None."""
    if wrong_at(house, row) is None:
        return None
    for mark in weak_marks(house):
        if wrong_at(mended(house, mark), row) is None:
            return mark
    return None


def assure(house, kinds=KINDS):
    """The number of stands of a right house."""
    verdict = judge(house, kinds)
    if not verdict.right:
        raise Wrong(verdict.row) from Blamed(blame(house, verdict.row))
    return len(verdict.stands)
