"""What several tests use: nodes in few words, and pages at random from a fixed seed."""

import random

from drawnanew.pages import Page


def node(mark, label="col", *children):
    return (mark, label, tuple(children))


def tree(text):
    """A page told as a root and its children in brackets, such as `r(a b(c d))`; the label of `a` is `at a`."""
    words = text.replace("(", " ( ").replace(")", " ) ").split()

    def nodes(at):
        found = []
        while at < len(words) and words[at] != ")":
            mark, inner = words[at], ()
            at += 1
            if at < len(words) and words[at] == "(":
                inner, at = nodes(at + 1)
                at += 1
            found.append((mark, f"at {mark}", inner))
        return tuple(found), at

    (root,), _ = nodes(0)
    return Page(root)


def outline(page):
    """The text from which `tree` makes the page, as far as marks tell it."""

    def told(root):
        inner = " ".join([told(child) for child in root[2]])
        return f"{root[0]}({inner})" if inner else root[0]

    return told(page.top)


def chain(levels):
    """A root with one node beneath another one, with marks 0, 1, 2, .. from above."""
    made = node(str(levels - 1), "end")
    for level in reversed(range(levels - 1)):
        made = node(str(level), "col", made)
    return made


def flat(many, first=0):
    """A root `r` with this many nodes in all."""
    return node("r", "col", *[node(f"n{k}", "x") for k in range(first, first + many - 1)])


def random_root(dice, marks, labels=("row", "col", "text 1", "button go", "x")):
    """A root with all of the marks, the first of them its own, each other one beneath an earlier one."""
    below = {mark: [] for mark in marks}
    for at, mark in enumerate(marks[1:], 1):
        above = below[marks[dice.randrange(at)]]
        above.insert(dice.randrange(len(above) + 1), mark)

    def made(mark):
        return (mark, dice.choice(labels), tuple([made(inner) for inner in below[mark]]))

    return made(marks[0])


def random_page(dice, pool, least=1):
    """A page with the root `r` and some marks of the pool."""
    marks = dice.sample(pool, dice.randrange(least - 1, len(pool) + 1))
    return Page(random_root(dice, ["r"] + marks))


def dice(seed):
    return random.Random(seed)


def get(name):
    return ("get", name)


def fix(value):
    return ("is", value)


def plus(name, many=1):
    """The form of the name's value and so many more."""
    return ("sum", ("get", name), ("is", many))


def deed(word, cell, form, on=False):
    """A deed that sets one cell."""
    return (word, ((cell, form),), on)


def labels(page):
    """The labels of a page, in page order."""
    return [page[mark][1] for mark in page]


def told(report):
    """The lists of a report that are not empty, by name."""
    names = ("made", "drawn", "dropped", "taken", "log", "asked")
    return {name: getattr(report, name) for name in names if getattr(report, name)}


PARTS = ("name", "takes", "hears", "cells", "asks", "gives", "effects", "deeds", "looks", "island", "shape")


def parts_of(component):
    """All parts of a component, by name."""
    return {part: getattr(component, part) for part in PARTS}


def house_told(house):
    """All parts of a house, with those of its components."""
    told = {part: getattr(house, part) for part in ("root", "far", "room", "focus", "elder")}
    return {**told, "components": [parts_of(component) for component in house]}
