"""Houses that several tests use, each with one thing that goes wrong or right."""

from drawnanew.components import Component
from drawnanew.houses import House
from drawnanew.shapes import button_shape, col_shape, each_shape, put_shape, row_shape, text_shape
from tests.helpers import deed, fix, get, plus

ITEM = ("get", "item")
AT = ("get", "at")

GROW = ("press", (), "grow")


def growing(*shapes, size=3, **parts):
    """A root with a cell `size` and a button `grow` that makes it greater by one."""
    deeds = (deed("grow", "size", plus("size")),) + parts.pop("deeds", ())
    cells = (("size", size, 0),) + parts.pop("cells", ())
    return Component("root", col_shape(button_shape("grow"), *shapes), cells=cells, deeds=deeds, **parts)


def shown(looks=None, name="shown", size=3):
    """A component that shows what it takes."""
    return Component(name, col_shape(text_shape(get("size"))), takes=(("size", size),), looks=looks)


def stale(size=3):
    """The house of the document's example: what it takes is not looked at."""
    return House([growing(put_shape("shown", get("size")), size=size), shown((), size=size)], "root")


def stale_twice():
    """What is taken is handed on to one further down, and neither one looks."""
    root = growing(put_shape("mid", get("size")))
    mid = Component("mid", col_shape(put_shape("shown", get("size"))), takes=(("size", 3),), looks=())
    return House([root, mid, shown(())], "root")


def old_effect(names=()):
    """The value of an effect changes, but it is armed on these names."""
    return House([growing(effects=(("title", get("size"), names),))], "root")


def swapped(key, looks=None):
    """Two items change places; each shows itself and has a button."""
    kid = Component(
        "kid", col_shape(text_shape(get("it")), button_shape("go")), takes=(("it", 4),), looks=looks)
    shape = col_shape(button_shape("swap"), each_shape(get("way"), ((1, 2), (2, 1)), key, "kid", ITEM))
    root = Component("root", shape, cells=(("way", 2, 0),), deeds=(deed("swap", "way", plus("way")),))
    return House([root, kid], "root")


def lost_focus():
    """Two items that look the same change places; only the focus tells where they went."""
    kid = Component("kid", row_shape(button_shape("go")))
    shape = col_shape(button_shape("swap"), each_shape(get("way"), ((1, 2), (2, 1)), AT, "kid"))
    root = Component("root", shape, cells=(("way", 2, 0),), deeds=(deed("swap", "way", plus("way")),))
    return House([root, kid], "root")


def unasked():
    """A question that changes is not asked again."""
    asker = Component("asker", col_shape(), takes=(("size", 3),), asks=(("reply", get("size"), "last"),), looks=())
    return House([growing(put_shape("asker", get("size"))), asker], "root", room=1)


def late(fence):
    """The answer of an earlier question comes late."""
    asks = (("reply", get("size"), fence),)
    asker = Component("asker", col_shape(text_shape(get("reply"))), takes=(("size", 2),), asks=asks)
    return House([growing(put_shape("asker", get("size")), size=2), asker], "root", room=3)


def with_islands(*islands, elder=(), size=3, cells=()):
    """A root with these islands, each with a button `inc` for a count of its own, 0 to 3, which is shown."""
    shapes = []
    components = []
    for at, island in enumerate(islands):
        name = "isle" + "abcdef"[at]
        shape = col_shape(text_shape(get("size")), text_shape(get("many")), button_shape("inc"))
        components.append(Component(
            name, shape, takes=(("size", size),), cells=(("many", 4, 0),), deeds=(deed("inc", "many", plus("many")),),
            island=island,
        ))
        shapes.append(put_shape(name, get("size")))
    return House([growing(*shapes, size=size, cells=cells)] + components, "root", elder=elder)


def isle(at):
    """The place of the island with this number in the house above."""
    return ((at + 2,),)


def inc(at):
    return ("press", isle(at), "inc")


def take(at):
    return ("take", isle(at))


def grey_island():
    """A press that the kept machine loses sets what nobody sees, so that the new machine alone is another."""
    shape = col_shape(button_shape("inc"))
    island = Component(
        "isle", shape, cells=(("many", 3, 0),), deeds=(deed("inc", "many", plus("many")),), island=("lost", True))
    return House([Component("root", col_shape(put_shape("isle"))), island], "root")


def counters(*sizes, weak=False):
    """A root with a cell of each size and a button for each; if weak, a child does not look at the last cell."""
    names = "abcdefgh"[:len(sizes)]
    cells = tuple([(name, size, 0) for name, size in zip(names, sizes)])
    deeds = tuple([deed(name, name, plus(name)) for name in names])
    shape = col_shape(*[button_shape(name) for name in names])
    if not weak:
        return House([Component("root", shape, cells=cells, deeds=deeds)], "root")
    child = shown((), size=sizes[-1])
    shape = col_shape(*shape[1], put_shape("shown", get(names[-1])))
    return House([Component("root", shape, cells=cells, deeds=deeds), child], "root")


def five_steps(first, second, word):
    """A deed that leads two cells, of the sizes 4 and 2, through five settings and back."""
    end = ("same", get(first), fix(3))
    return (word, ((first, ("pick", get(second), fix(0), plus(first))), (second, end)), False)


def many_stands(more):
    """A house of one component with 600 settings of its cells that presses lead to, or with 625."""
    cells = (("a", 4, 0), ("b", 2, 0), ("c", 4, 0), ("d", 2, 0))
    deeds = (five_steps("a", "b", "u"), five_steps("c", "d", "v"))
    if more:
        cells += (("e", 4, 0), ("f", 2, 0), ("g", 4, 0), ("h", 2, 0))
        deeds += (five_steps("e", "f", "w"), five_steps("g", "h", "x"))
    else:
        cells += (("e", 4, 0), ("f", 3, 0), ("g", 2, 0))
        deeds += (deed("w", "e", plus("e")), deed("x", "f", plus("f")), deed("y", "g", plus("g")))
    shape = col_shape(*[button_shape(word) for word, _, _ in deeds])
    return House([Component("root", shape, cells=cells, deeds=deeds)], "root")
