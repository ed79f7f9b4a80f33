"""Buttons, and the focus that goes over them."""

from drawnanew.errors import BadRule, NoNode

RULES = ("none", "first", "near")


def buttons(page):
    """The tuple of the marks of all buttons, in page order."""
    return tuple([mark for mark in page if page[mark][1].startswith("button ")])


def _near(lost, before, behind):
    """The nearest button of the old page that is left: those behind the lost one first, then those ahead of it."""
    place = before.index(lost)
    for mark in before[place + 1:] + before[:place][::-1]:
        if mark in behind:
            return mark
    return None


def _settled(mark, rule, before, behind):
    """The focus on a new page, from the focus and the buttons of the old one."""
    if mark is None or mark in behind:
        return mark
    if rule == "near":
        return _near(mark, before, behind)
    if rule == "first" and behind:
        return behind[0]
    return None


class Focus:
    """The mark of a button of a page, or None."""

    def __init__(self, page, rule="near"):
        if rule not in RULES:
            raise BadRule(rule)
        self.rule = rule
        self._page = page
        self._marks = buttons(page)
        self._at = None

    @property
    def page(self):
        """The page of the focus."""
        return self._page

    @property
    def at(self):
        """The mark of the button that has the focus, or None."""
        return self._at

    @at.setter
    def at(self, mark):
        if mark is not None and mark not in self._marks:
            raise NoNode(mark)
        self._at = mark

    def put(self, mark):
        """Set the focus and return it."""
        self.at = mark
        return mark

    def step(self, way):
        """Lead the focus to the next button, or back to the one ahead, and return it."""
        marks = self._marks
        if not marks:
            return None
        if self._at is None:
            self._at = marks[0] if way == "next" else marks[-1]
        else:
            place = marks.index(self._at) + (1 if way == "next" else -1)
            self._at = marks[place % len(marks)]
        return self._at

    def turn(self, page):
        """Go on to a new page and return the focus there."""
        if page != self._page:
            marks = buttons(page)
            self._at = _settled(self._at, self.rule, self._marks, marks)
            self._marks = marks
        self._page = page
        return self._at
