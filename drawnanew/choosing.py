"""Sets of things, and the least ones of those that hold."""


def all_sets(things):
    """All sets of the things, as tuples, by their number of things, then by the places of these."""
    rows = [()]
    longest = [()]
    for _ in things:
        longest = [row + (at,) for row in longest for at in range(len(things)) if not row or at > row[-1]]
        rows = rows + longest
    return [tuple([things[at] for at in row]) for row in rows]


def _is_part(part, whole):
    """Whether the one set is a part of the other one."""
    return all([thing in whole for thing in part])


def least_sets(things, holds):
    """The sets of the things that hold and of which no proper part does, in order."""
    least = []
    for chosen in all_sets(things):
        if not any([_is_part(part, chosen) for part in least]) and holds(chosen):
            least.append(chosen)
    return least
