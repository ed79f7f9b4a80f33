"""Desks: houses that are told what to do, and asked, line by line."""

from drawnanew.anew import Anew
from drawnanew.errors import BadLine
from drawnanew.reading import read_place
from drawnanew.sessions import Session, disagreement
from drawnanew.wording import Words, is_number
from drawnanew.writing import write_place

LINES = ("press", "next", "back", "enter", "point", "land", "far", "take", "page", "armed", "open", "value")

# How many digits a number of an event has at most.
EVENT_DIGITS = 3


def _read_place(words):
    """Read a place."""
    return read_place(words.read(lambda word: read_place(word) is not None))


def _read_number(words):
    """Read a number of an event."""
    return int(words.read(lambda word: is_number(word, EVENT_DIGITS)))


def _read_event(word, words):
    """Read the event of a line behind its first word."""
    if word == "press":
        return (word, _read_place(words), words.read_name())
    if word == "point":
        return (word, _read_number(words), _read_number(words))
    if word == "land":
        return (word, _read_number(words))
    if word == "take":
        return (word, _read_place(words))
    return (word,)


def _row_lines(rows):
    """The lines of rows of a place, a word and a number; a dash stands for no place."""
    lines = []
    for place, word, number in rows:
        told = "-" if place is None else write_place(place)
        lines.append(f"{told} {word} {number}")
    return lines


def _place_lines(word, places):
    """The lines of places, each behind the word."""
    return [word + " " + write_place(place) for place in places]


def _report_lines(report):
    """The lines of the rows of a report."""
    lines = _place_lines("made", report.made) + _place_lines("drawn", report.drawn)
    lines.extend(_place_lines("dropped", report.dropped) + _place_lines("taken", report.taken))
    lines.extend([f"{deed} {write_place(place)} {word} {value}" for deed, place, word, value in report.log])
    return lines + ["asked " + line for line in _row_lines(report.asked)]


def _page_lines(node, blanks, focused):
    """The lines of a node and of all beneath it; the button with the focus has a star."""
    mark, label, children = node
    lines = [blanks + label + (" *" if mark == focused else "")]
    for child in children:
        lines.extend(_page_lines(child, blanks + "  ", focused))
    return lines


class Desk:
    """A Session and an Anew of a house, which take lines."""

    def __init__(self, house):
        self._house = house
        self._session = Session(house)
        self._anew = Anew(house)

    def say(self, line):
        """The lines of the answer to a line."""
        words = Words(0, line)
        word = words.read_one(LINES)
        if word == "value":
            return self._value(words)
        event = _read_event(word, words)
        words.finish()
        if word == "page":
            return _page_lines(self._session.page.top, "", self._session.focused)
        if word == "armed":
            return _row_lines(self._session.armed())
        if word == "open":
            return _row_lines(self._session.questions())
        return _report_lines(self._session.do(event)) + [self._state(event)]

    def _state(self, event):
        """Let the Anew do the event, too, and tell whether both show the same."""
        self._anew.do(event)
        if not self._session.at_rest:
            return "waits"
        part = disagreement(self._session, self._anew)
        return "same" if part is None else "parts " + part

    def _value(self, words):
        """The answer to a line that asks for a value, behind its first word."""
        components = {told: self._house[kind] for told, kind in self._session.instances()}
        place = read_place(words.read(lambda word: read_place(word) in components))
        name = words.read_one(components[place].names)
        words.finish()
        return [str(self._session.value(place, name))]

    def _answer(self, line):
        """The lines of the answer to a line, or the line that tells where it is refused."""
        try:
            return self.say(line)
        except BadLine as why:
            return [f"? {why.word}"]

    def listing(self, lines):
        """The lines, each with its answer behind it."""
        for line in lines:
            yield "> " + line
            yield from self._answer(line)
