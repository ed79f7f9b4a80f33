"""Houses at random from a fixed seed, with full marks or with any."""

from drawnanew.components import Component
from drawnanew.errors import ScreenError
from drawnanew.forms import names_in
from drawnanew.houses import House

FENCES = ("any", "own", "same", "both", "last")
ITEM = ("get", "item")


def random_form(dice, names, levels=3):
    kind = dice.choice(["is", "get", "get", "sum", "same", "pick"] if levels > 1 else ["is", "get", "get"])
    if kind == "get" and names:
        return ("get", dice.choice(names))
    if kind in ("is", "get"):
        return ("is", dice.randrange(10))
    many = 3 if kind == "pick" else 2
    return (kind, *[random_form(dice, names, levels - 1) for _ in range(many)])


def some_of(dice, things, full):
    return tuple(things) if full else tuple([thing for thing in things if dice.random() < 0.6])


def random_row(dice):
    return tuple(dice.sample(range(10), dice.randrange(4)))


def random_shape(dice, names, words, below, full, levels=3):
    kinds = ["text", "text", "button"] + ["put", "each"] * (1 if below else 0)
    if levels > 1:
        kinds += ["row", "col", "when"]
    kind = dice.choice(kinds)
    if kind == "text":
        return ("text", random_form(dice, names))
    if kind == "button":
        return ("button", dice.choice(words))
    if kind in ("row", "col"):
        return (kind, tuple([random_shape(dice, names, words, below, full, levels - 1) for _ in range(dice.randrange(1, 4))]))
    if kind == "when":
        parts = [random_shape(dice, names, words, below, full, levels - 1) for _ in range(2)]
        return ("when", random_form(dice, names), *parts)
    child = dice.choice(below)
    if kind == "put":
        return ("put", child.name, tuple([random_form(dice, names) for _ in child.takes]))
    key = ITEM if full or dice.random() < 0.4 else random_form(dice, ["item", "at"], 2)
    menu = tuple([random_row(dice) for _ in range(dice.randrange(1, 4))])
    forms = tuple([random_form(dice, names + ["item", "at"]) for _ in child.takes])
    return ("each", random_form(dice, names), menu, key, child.name, forms)


def random_component(dice, name, below, full, is_root, asking, island):
    takes = () if is_root else tuple([(word, dice.randrange(1, 5)) for word in "tu"[:dice.randrange(3)]])
    hears = tuple([(word, size, dice.randrange(size)) for word, size in [("g", 4), ("h", 3)][:dice.randrange(3)]])
    cells = tuple([(word, size, dice.randrange(size)) for word, size in [("c", 3), ("d", 4), ("e", 2)][:dice.randrange(1, 4)]])
    read = [row[0] for row in takes + hears + cells]
    asks = ()
    if asking and not island:
        asks = tuple([
            (word, random_form(dice, read), "last" if full else dice.choice(FENCES)) for word in "qr"[:dice.randrange(3)]])
    names = read + [row[0] for row in asks]
    gives = tuple([(word, dice.randrange(2, 5), random_form(dice, names)) for word in dice.sample("gh", dice.randrange(3))])
    effects = []
    for word in "mn"[:dice.randrange(3)]:
        form = random_form(dice, names)
        effects.append((word, form, some_of(dice, names_in(form), full)))
    words = ["go", "grow", "up"]
    deeds = tuple([
        (word, tuple([
            (cell, random_form(dice, names + ["item"])) for cell in dice.sample([row[0] for row in cells], dice.randrange(1, len(cells) + 1))
        ]), dice.random() < 0.5)
        for word in words if dice.random() < 0.8
    ])
    parts = [random_shape(dice, names, words, below, full) for _ in range(dice.randrange(1, 5))]
    if not any([part[0] == "button" for part in parts]):
        parts.append(("button", dice.choice(words)))
    return Component(
        name, (dice.choice(["row", "col"]), tuple(parts)), takes=takes, hears=hears, cells=cells, asks=asks, gives=gives,
        effects=tuple(effects), deeds=deeds, looks=some_of(dice, [row[0] for row in takes + hears], full),
        island=island,
    )


def random_house(dice, full, islands=False, asking=True):
    """A house of 1 to 4 components; full marks have islands that are ("takes", True)."""
    while True:
        try:
            components = []
            names = ["leaf", "mid", "top", "root"][dice.randrange(4):]
            for name in names:
                island = None
                if islands and name != "root" and dice.random() < 0.5:
                    island = ("takes", True) if full else (dice.choice(["lost", "kept", "takes"]), dice.random() < 0.5)
                components.append(random_component(
                    dice, name, list(components), full, name == "root", asking and not islands, island))
            root = components[-1]
            far = tuple([tuple([dice.randrange(1, 4) for _ in range(4)]) for _ in range(dice.randrange(1, 4))])
            elder = tuple([
                (name, dice.randrange(size)) for name, size, _ in root.cells if islands and dice.random() < 0.6])
            house = House(
                components[::-1] if dice.random() < 0.5 else components, "root", far=far, room=dice.randrange(1, 4),
                focus=dice.choice(["none", "first", "near"]), elder=elder)
            if house.most > 1 or len(names) == 1:
                return house
        except ScreenError:
            continue


def small(house):
    """The house with sizes of at most 2, so that it has fewer stands."""
    components = [
        component.changed(
            takes=tuple([(name, min(size, 2)) for name, size in component.takes]),
            hears=tuple([(name, min(size, 2), worth % 2 if size > 1 else 0) for name, size, worth in component.hears]),
            cells=tuple([(name, min(size, 2), worth % 2 if size > 1 else 0) for name, size, worth in component.cells]),
        )
        for component in house
    ]
    return house.changed(components=components, elder=tuple([(cell, worth % 2 if worth else 0) for cell, worth in [
        row for row in house.elder if house[house.root].size_of(row[0]) > 1]]))


def is_plain(house, most=40):
    """Whether the cells and answers of the components have few settings, so that the house has few stands."""
    many = 1
    for component in house:
        for name in [row[0] for row in component.cells + component.asks]:
            many *= component.size_of(name)
    return many <= most
