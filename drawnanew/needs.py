"""Settings of names, and the names that works need."""

from drawnanew.errors import NoName, TooMany

MOST_SETTINGS = 256


def _check_many(ranges):
    """Raise TooMany if the ranges have too many settings."""
    many = 1
    for _, size in ranges:
        many = many * size
    if many > MOST_SETTINGS:
        raise TooMany(many)


def _value_rows(ranges):
    """The values of each setting, as tuples, in the order of the settings."""
    _check_many(ranges)
    rows = [()]
    for _, size in ranges:
        rows = [row + (value,) for row in rows for value in range(size)]
    return rows


def _setting(ranges, row):
    """A new setting with these values."""
    return {name: value for (name, _), value in zip(ranges, row)}


def settings(ranges):
    """All settings of the ranges, in order."""
    kept = list(ranges)
    for row in _value_rows(kept):
        yield _setting(kept, row)


def _results(works, ranges):
    """What the works return for each setting, told by the setting's values."""
    return {row: works(_setting(ranges, row)) for row in _value_rows(ranges)}


def _parting(results, ranges, at):
    """The first two rows of values that differ at this place alone and have different results, or None."""
    for row in results:
        for value in range(ranges[at][1]):
            other = row[:at] + (value,) + row[at + 1:]
            if value != row[at] and not results[row] == results[other]:
                return (row, other)
    return None


def needed(works, ranges):
    """The tuple of the names that the works need, in the order of the ranges."""
    results = _results(works, ranges)
    return tuple([name for at, (name, _) in enumerate(ranges) if _parting(results, ranges, at) is not None])


def shown_by(works, ranges, name):
    """The first pair of settings that shows that the works need the name, or None."""
    _check_many(ranges)
    names = [told for told, _ in ranges]
    if name not in names:
        raise NoName(name)
    pair = _parting(_results(works, ranges), ranges, names.index(name))
    if pair is None:
        return None
    return (_setting(ranges, pair[0]), _setting(ranges, pair[1]))


def apart(first, second, ranges):
    """The first setting at which two works give different results, or None."""
    for row in _value_rows(ranges):
        if not first(_setting(ranges, row)) == second(_setting(ranges, row)):
            return _setting(ranges, row)
    return None


def enough(works, ranges, names):
    """Whether any two settings that agree on the names give the works equal results."""
    return all([name in names for name in needed(works, ranges)])
