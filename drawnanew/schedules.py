"""Schedules: for each set of changed names, whether an instance is drawn again."""

from drawnanew.choosing import all_sets
from drawnanew.errors import BadNames
from drawnanew.forms import is_name

MOST_NAMES = 3


def _is_set(names):
    """Whether this is a tuple of names, each once, and not empty."""
    if not isinstance(names, tuple) or not names or not all([is_name(name) for name in names]):
        return False
    return len(set(names)) == len(names)


def _check_names(names):
    """Raise BadNames unless these are 1 to 3 different names."""
    if not _is_set(names) or len(names) > MOST_NAMES:
        raise BadNames(names)


def _all_sets(names):
    """All nonempty sets of the names, by their number of names, then by the places of these."""
    return all_sets(names)[1:]


def _in_order(names, changed):
    """The names of the set in the order of the names."""
    return tuple([name for name in names if name in changed])


def _has_needed(changed, needs):
    """Whether the set has a needed name."""
    return any([name in needs for name in changed])


class Schedule:
    """The sets of changed names for which an instance is drawn again; it never changes."""

    def __init__(self, names, sets):
        _check_names(names)
        for changed in sets:
            if not _is_set(changed) or not all([name in names for name in changed]):
                raise BadNames(changed)
        told = {_in_order(names, changed): True for changed in sets}
        self._names = names
        self._sets = [changed for changed in _all_sets(names) if changed in told]

    def __contains__(self, changed):
        return _is_set(changed) and len(_in_order(self._names, changed)) == len(changed) and (
            _in_order(self._names, changed) in self._sets)

    def __le__(self, other):
        if not isinstance(other, Schedule):
            return NotImplemented
        return all([changed in other._sets for changed in self._sets])

    def __eq__(self, other):
        return isinstance(other, Schedule) and self._names == other._names and self._sets == other._sets

    def __iter__(self):
        return iter(self._sets)

    def missed(self, needs):
        """The first set that has a needed name and for which it does not draw, or None."""
        for changed in _all_sets(self._names):
            if _has_needed(changed, needs) and changed not in self._sets:
                return changed
        return None

    @staticmethod
    def least(names, needs):
        """The schedule that draws exactly for the sets that have a needed name."""
        _check_names(names)
        return Schedule(names, [changed for changed in _all_sets(names) if _has_needed(changed, needs)])


def all_schedules(names):
    """All schedules of the names, by the sum of 2 to the places of their sets."""
    _check_names(names)
    rows = [[]]
    for changed in _all_sets(names):
        rows = rows + [row + [changed] for row in rows]
    for row in rows:
        yield Schedule(names, row)


def spoiling(schedule, needs):
    """None if the schedule is right for the needed names, otherwise a shape and two settings that show it."""
    changed = schedule.missed(needs)
    if changed is None:
        return None
    names = schedule._names
    texts = tuple([("text", ("get", name)) for name in names if name in needs])
    before = {name: 0 for name in names}
    after = {name: 1 if name in changed else 0 for name in names}
    return (("col", texts), before, after)
