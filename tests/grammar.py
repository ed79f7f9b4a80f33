"""The language of rows told once more, as a table: what each thing that can be read begins with and consists of.

Tests hold `read_house` against it. It tells where a text goes wrong, not what it means.
"""


def is_name(word):
    return 1 <= len(word) <= 8 and all(["a" <= sign <= "z" for sign in word])


def is_digit(word):
    return word in list("0123456789")


# A lower-case word stands for itself, `$` for the end of a line; what begins with `!` is a kind of words.
KINDS = {
    "!name": is_name,
    "!digit": is_digit,
    "!fence": lambda word: word in ("any", "own", "same", "both", "last"),
    "!rule": lambda word: word in ("none", "first", "near"),
    "!press": lambda word: word in ("lost", "kept", "takes"),
    "!check": lambda word: word in ("checked", "trusted"),
    "!way": lambda word: word in ("stops", "goes"),
}

# For each thing the ways in which it can go on; where it can be nothing at all, the last way is empty.
WAYS = {
    "HOUSE": ["house !name $ FARS room !digit $ focus !rule $ ELDERS COMPONENTS"],
    "FARS": ["far !digit !digit !digit !digit $ FARS", ""],
    "ELDERS": ["elder !name !digit $ ELDERS", ""],
    "COMPONENTS": ["component !name $ TAKES HEARS CELLS ASKS GIVES EFFECTS DEEDS LOOK ISLAND SHAPE COMPONENTS", ""],
    "TAKES": ["take !name !digit $ TAKES", ""],
    "HEARS": ["hear !name !digit !digit $ HEARS", ""],
    "CELLS": ["cell !name !digit !digit $ CELLS", ""],
    "ASKS": ["ask !name !fence FORM $ ASKS", ""],
    "GIVES": ["give !name !digit FORM $ GIVES", ""],
    "EFFECTS": ["effect !name FORM on NAMES $ EFFECTS", ""],
    "DEEDS": ["deed !name !way !name FORM ANDS $ DEEDS", ""],
    "ANDS": ["and !name FORM ANDS", ""],
    "LOOK": ["look NAMES $", ""],
    "ISLAND": ["island !press !check $", ""],
    "SHAPE": [
        "text FORM $", "button !name $", "row $ SHAPES end $", "col $ SHAPES end $", "when FORM $ SHAPE SHAPE end $",
        "put !name FORMS $", "each FORM rows ROWS key FORM put !name FORMS $",
    ],
    "SHAPES": ["SHAPE SHAPES", ""],
    "ROWS": ["!digit ROWS", ", ROWS", ""],
    "NAMES": ["!name NAMES", ""],
    "FORMS": ["FORM FORMS", ""],
    "FORM": ["is !digit", "get !name", "sum FORM FORM", "same FORM FORM", "pick FORM FORM FORM"],
}


def fits(thing, word):
    """Whether the word can be the first one of the thing; None is the end of the text, `$` that of a line."""
    if thing in WAYS:
        return any([way and fits(way.split()[0], word) for way in WAYS[thing]])
    if word is None or thing == "$" or word == "$":
        return thing == word
    return KINDS[thing](word) if thing in KINDS else thing == word


def tokens(lines):
    """All words that are not skipped, with their lines and places; `$` behind each line, None behind the last one."""
    found = []
    for number, line in enumerate(lines, 1):
        if line and not line.startswith("#"):
            words = line.split(" ")
            # A sign that ends lines in the table is no word of a text.
            found.extend([(number, at, word if word != "$" else "!") for at, word in enumerate(words, 1)])
            found.append((number, len(words) + 1, "$"))
    return found + [(len(lines) + 1, 1, None)]


def first_wrong(lines):
    """The line and the word that cannot stand there, or None; and the lines of all words `component` ahead of it."""
    waiting = ["HOUSE", None]
    components = []
    for number, at, word in tokens(lines):
        while waiting[0] in WAYS:
            thing = waiting[0]
            ways = [way for way in WAYS[thing] if way and fits(way.split()[0], word)]
            if not ways and "" not in WAYS[thing]:
                return (number, at), components
            waiting[:1] = ways[0].split() if ways else []
        if waiting[0] is None and word is not None or not (waiting[0] == word if word is None else fits(waiting[0], word)):
            return (number, at), components
        if waiting.pop(0) == "component":
            components.append(number)
    return None, components
