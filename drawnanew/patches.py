"""Patches: the small changes that lead from one page to another one."""

from drawnanew.errors import BadPatch, BadPlace, NoNode, NotOnePage, RootStays, TwiceMarked
from drawnanew.forms import is_whole
from drawnanew.pages import Page, first_twice, marks_in

# How many items a patch with this first item has.
MANY_ITEMS = {"drop": 2, "put": 4, "move": 3, "say": 3}

# What one row of patches does with a node, and what a row that is separate from it does not do with that node.
CLASHES = (
    ("children", "children"),
    ("label", "label"),
    ("children", "removed"),
    ("label", "removed"),
    ("removed", "children"),
    ("removed", "label"),
    ("brought", "brought"),
    ("removed", "brought"),
    ("brought", "removed"),
)


def _check_words(patch):
    """Raise BadPatch unless the patch has a told word and as many items as that tells."""
    if not isinstance(patch, tuple) or not patch or not isinstance(patch[0], str):
        raise BadPatch(patch)
    if patch[0] not in MANY_ITEMS or len(patch) != MANY_ITEMS[patch[0]]:
        raise BadPatch(patch)


def _check_place(at, most):
    """Raise BadPlace unless the index is from 0 to the most."""
    if not is_whole(at) or not 0 <= at <= most:
        raise BadPlace(at)


def _with_node(page, mark, node):
    """The page on which the node stands where the one with the mark stood."""
    above = page.parent(mark)
    while above is not None:
        _, label, children = page[above]
        node = (above, label, tuple([node if child[0] == mark else child for child in children]))
        mark = above
        above = page.parent(mark)
    return Page(node)


def _with_children(page, mark, children):
    """The page on which the node with the mark has these children."""
    return _with_node(page, mark, (mark, page[mark][1], children))


def _with_put(page, mark, at, node):
    """The page behind a put; a Page itself refuses too many nodes."""
    children = page[mark][2]
    _check_place(at, len(children))
    twice = first_twice(marks_in(node), list(page))
    if twice is not None:
        raise TwiceMarked(twice)
    return _with_children(page, mark, children[:at] + (node,) + children[at:])


def _others(page, mark):
    """The children of the node's parent without the node."""
    return tuple([child for child in page[page.parent(mark)][2] if child[0] != mark])


def _with_move(page, mark, at):
    """The page behind a move."""
    others = _others(page, mark)
    _check_place(at, len(others))
    return _with_children(page, page.parent(mark), others[:at] + (page[mark],) + others[at:])


def _behind(page, patch):
    """The page behind the patch, which is checked first."""
    _check_words(patch)
    word, mark = patch[0], patch[1]
    if mark not in page:
        raise NoNode(mark)
    if word == "say":
        return _with_node(page, mark, (mark, patch[2], page[mark][2]))
    if word == "put":
        return _with_put(page, mark, patch[2], patch[3])
    if page.parent(mark) is None:
        raise RootStays(mark)
    if word == "move":
        return _with_move(page, mark, patch[2])
    return _with_children(page, page.parent(mark), _others(page, mark))


def _place_of(page, mark):
    """The index of the node among the children of its parent."""
    return [child[0] for child in page[page.parent(mark)][2]].index(mark)


def _back(page, patch):
    """The patch that leads back to the page from the one behind the patch."""
    word, mark = patch[0], patch[1]
    if word == "put":
        return ("drop", patch[3][0])
    if word == "say":
        return ("say", mark, page[mark][1])
    if word == "move":
        return ("move", mark, _place_of(page, mark))
    return ("put", page.parent(mark), _place_of(page, mark), page[mark])


class Patches:
    """A row of patches of a page; it never changes."""

    def __init__(self, page, rows):
        kept = tuple(rows)
        end = page
        for patch in kept:
            end = _behind(end, patch)
        self._page = page
        self._rows = kept
        self._end = end

    @property
    def page(self):
        """The page ahead of the patches."""
        return self._page

    @property
    def end(self):
        """The page behind the patches."""
        return self._end

    @property
    def many(self):
        """The number of patches."""
        return len(self._rows)

    def __iter__(self):
        return iter(self._rows)

    def __add__(self, other):
        if not isinstance(other, Patches):
            return NotImplemented
        if other.page != self._end:
            raise NotOnePage(other.page.top[0])
        return Patches(self._page, self._rows + other._rows)

    def __neg__(self):
        page = self._page
        backs = []
        for patch in self._rows:
            backs.append(_back(page, patch))
            page = _behind(page, patch)
        return Patches(self._end, backs[::-1])


def staying(old, new):
    """The tuple of the marks of the staying nodes, in page order of the old page."""
    root = old.top[0]
    if new.top[0] != root:
        raise NotOnePage(new.top[0])
    stay = {root: True}
    for mark in old:
        above = old.parent(mark)
        if above in stay and mark in new and new.parent(mark) == above:
            stay[mark] = True
    return tuple(stay)


def _longest_rising(places):
    """The indexes, from the last one, of a longest row of places in which each one is beyond those ahead of it."""
    lengths = []
    links = []
    last = None
    for here, place in enumerate(places):
        length, link = 1, None
        for there in range(here):
            if places[there] < place and lengths[there] >= length:
                length, link = lengths[there] + 1, there
        lengths.append(length)
        links.append(link)
        if last is None or length > lengths[last]:
            last = here
    found = []
    while last is not None:
        found.append(last)
        last = links[last]
    return found


def _moves(before, behind):
    """The fewest moves that bring the marks from the one order into the other one."""
    places = {mark: place for place, mark in enumerate(before)}
    fixed = {behind[k]: True for k in _longest_rising([places[mark] for mark in behind])}
    present = list(before)
    moves = []
    for place, mark in enumerate(behind):
        if mark not in fixed:
            present.remove(mark)
            at = present.index(behind[place - 1]) + 1 if place > 0 else 0
            present.insert(at, mark)
            moves.append(("move", mark, at))
    return moves


def _staying_children(page, mark, stay):
    """The marks of the node's children that stay, in order."""
    return [child[0] for child in page[mark][2] if child[0] in stay]


def _puts(node, stay):
    """The puts of the node's children that do not stay, from left to right, so that each index holds in its turn."""
    return [("put", node[0], at, child) for at, child in enumerate(node[2]) if child[0] not in stay]


def between(old, new):
    """A careful row of the fewest patches that leads from the old page to the new one."""
    stay = {mark: True for mark in staying(old, new)}
    rows = [("drop", mark) for mark in old if mark not in stay and old.parent(mark) in stay]
    for mark in stay:
        rows.extend(_moves(_staying_children(old, mark, stay), _staying_children(new, mark, stay)))
        rows.extend(_puts(new[mark], stay))
        if new[mark][1] != old[mark][1]:
            rows.append(("say", mark, new[mark][1]))
    return Patches(old, rows)


def _told(patches):
    """The marks of a row of patches, by what the row does with their nodes."""
    page = patches.page
    told = {"children": [], "label": [], "removed": [], "brought": []}
    for patch in patches:
        word, mark = patch[0], patch[1]
        if word == "say":
            told["label"].append(mark)
        else:
            told["children"].append(mark if word == "put" else page.parent(mark))
        if word == "put":
            told["brought"].extend(marks_in(patch[3]))
        if word == "drop":
            told["removed"].extend(marks_in(page[mark]))
        page = _behind(page, patch)
    return told


def _meet(marks, others):
    """Whether a mark stands in both lists."""
    known = {mark: True for mark in others}
    return any([mark in known for mark in marks])


def separate(first, second):
    """Whether two rows of patches of the same page are separate."""
    if first.page != second.page:
        raise NotOnePage(second.page.top[0])
    told, other = _told(first), _told(second)
    return not any([_meet(told[one], other[two]) for one, two in CLASHES])


def _next_turns(turns):
    """The turns of the next weaving, or None behind the last one; True goes on with the first list."""
    for at in reversed(range(len(turns) - 1)):
        if turns[at] and not turns[at + 1]:
            rest = turns[at + 2:]
            many = rest.count(True) + 1
            return turns[:at] + [False] + [True] * many + [False] * (len(rest) + 1 - many)
    return None


def _woven(first, second, turns):
    """The weaving with these turns."""
    mixed = []
    taken = 0
    for at, turn in enumerate(turns):
        mixed.append(first[taken] if turn else second[at - taken])
        if turn:
            taken += 1
    return mixed


def weavings(first, second):
    """All weavings of two lists; where two differ, the one that goes on with the first list comes first."""
    ahead, beside = list(first), list(second)
    turns = [True] * len(ahead) + [False] * len(beside)
    while turns is not None:
        yield _woven(ahead, beside, turns)
        turns = _next_turns(turns)
