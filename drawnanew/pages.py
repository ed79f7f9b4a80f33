"""Pages: nodes with marks and labels, in page order."""

from drawnanew.errors import NoNode, TooMany, TwiceMarked

MOST_NODES = 400


def nodes_in(node):
    """The node and everything beneath it, in page order."""
    nodes = [node]
    for child in node[2]:
        nodes.extend(nodes_in(child))
    return nodes


def marks_in(node):
    """The marks of the node and of everything beneath it, in page order."""
    return [inner[0] for inner in nodes_in(node)]


def first_twice(marks, known):
    """The first of the marks that is known or came before among them, or None."""
    seen = set(known)
    for mark in marks:
        if mark in seen:
            return mark
        seen.add(mark)
    return None


def shown_form(node):
    """The label of the node with the shown forms of its children."""
    return (node[1], tuple([shown_form(child) for child in node[2]]))


class Page:
    """A page, given by its root; it never changes."""

    def __init__(self, root):
        nodes = nodes_in(root)
        twice = first_twice([node[0] for node in nodes], [])
        if twice is not None:
            raise TwiceMarked(twice)
        if len(nodes) > MOST_NODES:
            raise TooMany(len(nodes))
        self._root = root
        self._nodes = {node[0]: node for node in nodes}
        self._parents = {child[0]: node[0] for node in nodes for child in node[2]}

    @property
    def top(self):
        """The root, a node."""
        return self._root

    @property
    def shown(self):
        """The shown form of the root."""
        return shown_form(self._root)

    def __getitem__(self, mark):
        if mark not in self._nodes:
            raise NoNode(mark)
        return self._nodes[mark]

    def __contains__(self, mark):
        return mark in self._nodes

    def __iter__(self):
        return iter(self._nodes)

    def __eq__(self, other):
        return isinstance(other, Page) and self._root == other._root

    def parent(self, mark):
        """The mark of the node's parent, or None for the root."""
        if mark not in self._nodes:
            raise NoNode(mark)
        return self._parents.get(mark)
