"""Sizes and rectangles of the nodes of a page."""

from drawnanew.errors import NoNode, NotOnePage


def measure(label, sizes):
    """The width and the height of a node with this label and these sizes of its children."""
    if not sizes:
        return (0, 0) if label in ("row", "col") else (len(label), 1)
    # The language lets max take plain numbers alone, so what is a number already stands in an int.
    if label == "row":
        return (sum([width for width, _ in sizes]), max([int(height) for _, height in sizes]))
    return (max([int(width) for width, _ in sizes]), sum([height for _, height in sizes]))


def _measured(node):
    """Triples of the mark, of what the node is measured with, and of its size; a node behind its children."""
    rows = []
    sizes = []
    for child in node[2]:
        rows.extend(_measured(child))
        sizes.append(rows[-1][2])
    rows.append((node[0], (node[1], tuple(sizes)), measure(node[1], tuple(sizes))))
    return rows


def _rectangles(node, x, y, sizes):
    """Pairs of the mark and the rectangle, in page order, for a node that stands at this point."""
    width, height = sizes[node[0]]
    rows = [(node[0], (x, y, width, height))]
    for child in node[2]:
        rows.extend(_rectangles(child, x, y, sizes))
        if node[1] == "row":
            x += sizes[child[0]][0]
        else:
            y += sizes[child[0]][1]
    return rows


def _holds(rectangle, px, py):
    """Whether the rectangle holds the point."""
    x, y, width, height = rectangle
    return x <= px < x + width and y <= py < y + height


class Laid:
    """A page as it is laid out; it goes on to other pages by patches."""

    def __init__(self, page):
        self._keep(page, _measured(page.top))

    def _keep(self, page, measured):
        """Keep the page with what its nodes are measured with and where they stand."""
        sizes = {mark: size for mark, _, size in measured}
        self._page = page
        self._told = {mark: told for mark, told, _ in measured}
        self._places = {mark: place for mark, place in _rectangles(page.top, 0, 0, sizes)}

    @property
    def page(self):
        """The page that is laid out."""
        return self._page

    @property
    def size(self):
        """The width and the height of the root."""
        _, _, width, height = self._places[self._page.top[0]]
        return (width, height)

    def __getitem__(self, mark):
        if mark not in self._places:
            raise NoNode(mark)
        return self._places[mark]

    def __iter__(self):
        return iter(self._places)

    def hit(self, x, y):
        """The mark of the deepest node whose rectangle holds the point, or None."""
        found = None
        # Children stand within their parent and beside one another, so the last one that holds it is the deepest.
        for mark, place in self._places.items():
            if _holds(place, x, y):
                found = mark
        return found

    def take(self, patches):
        """Go on to the end of the patches; the tuple of the marks of the nodes that are measured again."""
        if patches.page != self._page:
            raise NotOnePage(patches.page.top[0])
        measured = _measured(patches.end.top)
        again = tuple([mark for mark, told, _ in measured if mark not in self._told or self._told[mark] != told])
        self._keep(patches.end, measured)
        return again
