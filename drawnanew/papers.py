"""Papers: verdicts on single components, each in its widest house."""

from drawnanew.errors import Blamed, NoPaper
from drawnanew.forms import value_of
from drawnanew.instances import drawn_parts
from drawnanew.judging import blame, judge
from drawnanew.needs import needed
from drawnanew.surroundings import widest

PAPER_KINDS = ("press", "land", "far")


class Paper:
    """The verdict on the widest house of a component."""

    def __init__(self, component, house, verdict):
        self.component = component
        self.house = house
        self.verdict = verdict

    def __bool__(self):
        return bool(self.verdict.right)


def paper(house, name):
    """The paper of the component with this name."""
    wide = widest(house, name)
    return Paper(name, wide, judge(wide, PAPER_KINDS))


def papers(house):
    """The list of the papers of all components, in order."""
    return [paper(house, component.name) for component in house]


def vouched(house):
    """The number of papers, if all are good."""
    for component in house:
        told = paper(house, component.name)
        if not told:
            raise NoPaper(component.name) from Blamed(blame(told.house, told.verdict.row))
    return len(house.components)


def _set_values(component, deed, setting):
    """What a deed sets for each item from 0 to 9."""
    rows = []
    for item in range(10):
        values = {**setting, "item": item}
        rows.append(tuple([value_of(form, values) % component.size_of(cell) for cell, form in deed[1]]))
    return tuple(rows)


def output(component, setting):
    """The output of the component at a setting of all its names."""
    effects = [
        (value_of(form, setting), tuple([setting[name] for name in names])) for _, form, names in component.effects
    ]
    return (
        tuple([value_of(form, setting) % 4 for _, form, _ in component.asks]),
        tuple([value_of(form, setting) % size for _, size, form in component.gives]),
        tuple(effects),
        drawn_parts(component.plan, setting, "")[0],
        tuple([_set_values(component, deed, setting) for deed in component.deeds]),
    )


def needed_looks(component):
    """The tuple of the names of takes and hears that the component's output needs."""
    ranges = [(name, component.size_of(name)) for name in component.names]
    names = needed(lambda setting: output(component, setting), ranges)
    return tuple([name for name in names if name in component.given_names])


def thinned(house):
    """The house in which each component looks at what its output needs."""
    return house.changed(components=[component.changed(looks=needed_looks(component)) for component in house])
