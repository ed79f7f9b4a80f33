"""Orders in which frozen islands are taken over."""

from drawnanew.anew import new_look, new_machine
from drawnanew.choosing import least_sets
from drawnanew.errors import TooMany
from drawnanew.sessions import frozen_places, kept_machine

MOST_WEAVINGS = 210
MOST_ISLANDS = 4


def _longer(row, at, left, events):
    """The ways in which a row goes on: with the next event, or with the take of one of the places that are left."""
    rows = []
    if at < len(events):
        rows.append((row + [events[at]], at + 1, left))
    for number, place in enumerate(left):
        rows.append((row + [("take", place)], at, left[:number] + left[number + 1:]))
    return rows


def woven(events, places):
    """All weavings of the events with the takes of the places; where two differ, the next event comes first."""
    told = list(events)
    waiting = [([], 0, list(places))]
    while waiting:
        row, at, left = waiting.pop()
        if at == len(told) and not left:
            yield row
        # The last one in is the next one out, so that weavings come in order.
        waiting.extend(_longer(row, at, left, told)[::-1])


def _many_weavings(events, places):
    """The number of weavings of so many events with so many places."""
    many = 1
    for place in range(places):
        many = many * (events + place + 1)
    return many


def end_look(house, events):
    """The look of a new Session behind these events."""
    machine = kept_machine(house)
    for event in events:
        machine.do(event)
    return machine.look()


def _new_end(house, events):
    """The look of an Anew behind these events."""
    machine = new_machine(house)
    for event in events:
        machine.do(event)
    return new_look(machine, ())


def first_unlike(house, events):
    """None if the islands agree for this row, otherwise the first weaving with another end than an Anew has."""
    places = frozen_places(kept_machine(house))
    many = _many_weavings(len(events), len(places))
    if many > MOST_WEAVINGS:
        raise TooMany(many)
    end = _new_end(house, events)
    for row in woven(events, places):
        if end_look(house, row) != end:
            return row
    return None


def _takes(places):
    """The takes of these places."""
    return [("take", place) for place in places]


def least_lots(house, events):
    """The least lots: islands that are taken over ahead of the row, with the others behind it, for the right end."""
    places = frozen_places(kept_machine(house))
    if len(places) > MOST_ISLANDS:
        raise TooMany(len(places))
    end = _new_end(house, events)

    def is_lot(lot):
        others = [place for place in places if place not in lot]
        return end_look(house, _takes(lot) + list(events) + _takes(others)) == end

    return least_sets(places, is_lot)
