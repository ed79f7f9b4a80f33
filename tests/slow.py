"""The kept machine told once more, in another way: living things that know the thing above them.

Tests hold the Session against it. It is written from the document alone and shares nothing with the program but Form.
"""

from drawnanew.forms import Form


def shapes_of(shape):
    inner = shape[1] if shape[0] in ("row", "col") else shape[2:] if shape[0] == "when" else ()
    return [shape] + [deep for part in inner for deep in shapes_of(part)]


class Thing:
    def __init__(self, component, above, step):
        self.component, self.above, self.step = component, above, step
        self.place_step, self.handed = step, {}
        self.cells = {name: start for name, _, start in component.cells}
        self.answers = {name: 0 for name, _, _ in component.asks}
        self.asked = {}
        self.with_values, self.with_state = None, None
        self.gave, self.effects, self.kids, self.top = {}, [], [], None
        self.frozen = False

    @property
    def path(self):
        return self.above.path + (self.step,) if self.above else ()

    @property
    def place(self):
        return self.above.place + (self.place_step,) if self.above else ()

    @property
    def island(self):
        return self if self.frozen else self.above.island if self.above else None

    def given(self):
        values = {name: self.handed[name] % size for name, size in self.component.takes}
        for name, size, default in self.component.hears:
            above, told = self.above, default
            while above is not None:
                if name in above.gave:
                    told = above.gave[name]
                    break
                above = above.above
            values[name] = told % size
        return values

    def must(self):
        if self.with_values is None or self.with_state != {**self.cells, **self.answers}:
            return True
        given = self.given()
        return any([given[name] != self.with_values[name] for name in self.component.looks])

    def everything(self):
        return [self] + [deep for kid in self.kids for deep in kid.everything()]

    def from_below(self):
        return [deep for kid in self.kids for deep in kid.from_below()] + [self]

    def words(self, node=None):
        found = []
        for part in (self.top if node is None else node)[2]:
            if isinstance(part, tuple):
                if part[1].startswith("button "):
                    found.append((part[0], part[1][7:]))
                found.extend(self.words(part))
        return found

    def node(self, part=None):
        mark, label, parts = self.top if part is None else part
        return (mark, label, tuple([kid.node() if isinstance(kid, Thing) else self.node(kid) for kid in parts]))


class Slow:
    def __init__(self, house):
        self.house, self.tickets, self.edition = house, 0, 0
        self.line, self.queue, self.armed = [], [], []
        self.focus, self.told = None, None
        self.afar = self.root = None
        self.begin()
        root = Thing(house[house.root], None, None)
        root.cells.update(dict(house.elder))
        self.draw(root, False)
        self.visit(root, False)
        self.afar, self.root = {thing.path: thing for thing in root.everything()}, Thing(house[house.root], None, None)
        self.begin()
        self.round()
        self.afar = None
        self.page = self.root.node()

    def begin(self):
        self.told = {word: [] for word in ("made", "drawn", "dropped", "taken", "log", "asked")}
        if self.root:
            self.before = {thing.path: thing.place for thing in self.root.everything()}

    def visit(self, thing, asking=True):
        if thing.must():
            self.draw(thing, asking)
        for kid in thing.kids:
            self.visit(kid, asking)

    def take_over(self, island):
        self.told["taken"].append(island.place)
        island.frozen = False

    def draw(self, thing, asking=True):
        if asking and thing.island:
            self.take_over(thing.island)
        self.told["made" if thing.with_values is None else "drawn"].append(thing.place)
        given, component = thing.given(), thing.component
        for word, form, _ in component.asks:
            question = Form(form)({**given, **thing.cells}) % 4
            if asking and (word not in thing.asked or thing.asked[word][0] != question):
                answer = self.house.far[self.edition][question]
                thing.asked[word] = (question, self.tickets)
                self.line = (self.line + [(thing.path, word, thing, self.tickets, question, answer)])[-self.house.room:]
                self.tickets += 1
                thing.answers[word] = 0
                self.told["asked"].append((thing.place, word, question))
        thing.with_values, thing.with_state = given, {**thing.cells, **thing.answers}
        values = {**given, **thing.with_state}
        thing.gave = {name: Form(form)(values) % size for name, size, form in component.gives}
        thing.effects = [
            (word, Form(form)(values), tuple([values[name] for name in names])) for word, form, names in component.effects]
        old, thing.kids = thing.kids, []
        numbers = iter(range(100))
        (thing.top,) = self.parts(thing, component.shape, values, numbers, old, True)
        for kid in old:
            if kid not in thing.kids:
                for gone in kid.everything():
                    self.told["dropped"].append(self.before.get(gone.path) if asking and self.afar is None else None)
                    self.queue = [row for row in self.queue if row[2] is not gone]

    def parts(self, thing, shape, values, numbers, old, drawing):
        number = next(numbers)
        if shape[0] in ("row", "col"):
            inner = [self.parts(thing, part, values, numbers, old, drawing) for part in shape[1]]
            parts = [part for rows in inner for part in rows]
        elif shape[0] == "when":
            first = Form(shape[1])(values) != 0
            one = self.parts(thing, shape[2], values, numbers, old, drawing and first)
            two = self.parts(thing, shape[3], values, numbers, old, drawing and not first)
            return one if first else two
        if not drawing:
            return []
        if shape[0] == "put":
            handed = [Form(form)(values) for form in shape[2]]
            return [self.kid(thing, old, (number,), (number,), shape[1], handed)]
        if shape[0] == "each":
            return self.kids(thing, shape, values, number, old)
        mark = "".join([".".join(map(str, step)) + "/" for step in thing.path]) + str(number)
        if shape[0] == "text":
            return [(mark, f"text {Form(shape[1])(values)}", ())]
        if shape[0] == "button":
            return [(mark, f"button {shape[1]}", ())]
        return [(mark, shape[0], tuple(parts))]

    def kids(self, thing, shape, values, number, old):
        _, form, menu, key, name, forms = shape
        made, before = [], []
        for at, item in enumerate(menu[Form(form)(values) % len(menu)]):
            value = Form(key)({"item": item, "at": at})
            step = (number, value, before.count(value))
            before.append(value)
            handed = [Form(told)({**values, "item": item, "at": at}) for told in forms]
            made.append(self.kid(thing, old, step, (number, item), name, handed))
        return made

    def kid(self, thing, old, step, place_step, name, handed):
        known = [kid for kid in old if kid.step == step]
        component = self.house[name]
        kid = known[0] if known else Thing(component, thing, step)
        path = thing.path + (step,)
        stands = not known and self.afar is not None and component.island and path in self.afar
        if stands:
            kid = self.afar[path]
            kid.above, kid.frozen = thing, True
        kid.place_step = place_step
        kid.handed = {row[0]: value for row, value in zip(component.takes, handed)}
        thing.kids.append(kid)
        if stands and not component.island[1]:
            for inner in kid.everything():
                inner.with_values = inner.given()
        return kid

    def round(self):
        self.before = {thing.path: thing.place for thing in self.root.everything()} if self.root.kids else {(): ()}
        self.visit(self.root)
        now = {thing.path: thing.place for thing in self.root.everything()}
        place = lambda path: now[path] if path in now else self.before[path]
        wanted = [
            (thing.path, *effect) for thing in self.root.from_below() if not thing.island for effect in thing.effects]
        kept = [(row[0], row[1], row[3]) for row in wanted]
        for row in self.armed[::-1]:
            if (row[0], row[1], row[3]) not in kept:
                self.told["log"].append(("clean", place(row[0]), row[1], row[2]))
        self.armed = [row for row in self.armed if (row[0], row[1], row[3]) in kept]
        armed = [row[:2] for row in self.armed]
        for row in wanted:
            if row[:2] not in armed:
                self.armed.append(row)
                self.told["log"].append(("arm", place(row[0]), row[1], row[2]))

    def buttons(self, node=None):
        mark, label, children = node or self.page
        found = [mark] if label.startswith("button ") else []
        return found + [deep for child in children for deep in self.buttons(child)]

    def owner(self, mark):
        for thing in self.root.everything():
            for told, word in thing.words():
                if told == mark:
                    return thing, word
        return None, None

    def press(self, thing, word):
        island = thing.island
        if island:
            kind = island.component.island[0]
            if kind == "kept" and len(self.queue) < 3:
                self.queue.append((thing.place, word, island))
            if kind != "takes":
                return
            self.take_over(island)
        item, on = 0, True
        while thing is not None and on:
            for told, sets, on_told in thing.component.deeds:
                if told == word:
                    values = {**thing.with_values, **thing.cells, **thing.answers, "item": item}
                    sizes = {name: size for name, size, _ in thing.component.cells}
                    thing.cells.update({cell: Form(form)(values) % sizes[cell] for cell, form in sets})
                    on = on_told
            item = thing.place_step[1] if thing.above and len(thing.place_step) == 2 else 0
            thing = thing.above

    def press_at(self, place, word):
        for thing in self.root.everything():
            if thing.place == place and word in [told for _, told in thing.words()]:
                return self.press(thing, word)

    def do(self, event):
        self.begin()
        marks, word = self.buttons(), event[0]
        if word == "press":
            self.press_at(event[1], event[2])
        elif word in ("next", "back") and marks:
            at = marks.index(self.focus) if self.focus else (-1 if word == "next" else 0)
            self.focus = marks[(at + (1 if word == "next" else -1)) % len(marks)]
        elif word == "enter" and self.focus:
            self.press(*self.owner(self.focus))
        elif word == "land":
            self.land(event[1])
        elif word == "far":
            self.edition = min(self.edition + 1, len(self.house.far) - 1)
        elif word == "take":
            for thing in self.root.everything():
                if thing.place == event[1] and thing.frozen:
                    self.take_over(thing)
        self.round()
        while [row for row in self.queue if not row[2].frozen]:
            row = [row for row in self.queue if not row[2].frozen][0]
            self.queue.remove(row)
            self.press_at(row[0], row[1])
            self.round()
        self.page = self.root.node()
        self.settle(marks, self.buttons())
        return self.told

    def settle(self, before, behind):
        if self.focus is None or self.focus in behind:
            return
        at = before.index(self.focus)
        near = [mark for mark in before[at + 1:] + before[:at][::-1] if mark in behind]
        choice = {"none": [], "first": behind, "near": near}[self.house.focus]
        self.focus = choice[0] if choice else None

    def land(self, number):
        if number >= len(self.line):
            return
        path, word, sender, ticket, question, answer = self.line.pop(number)
        for thing in self.root.everything():
            if thing.path == path:
                fence = {told: fence for told, _, fence in thing.component.asks}[word]
                own, same = thing is sender, thing.asked[word][0] == question
                last = own and thing.asked[word] == (question, ticket)
                if {"any": True, "own": own, "same": same, "both": own and same, "last": last}[fence]:
                    thing.answers[word] = answer

    def look(self):
        def shown(node):
            return (node[1], tuple([shown(child) for child in node[2]]))

        values = {row[:2]: row[2] for row in self.armed}
        armed = [
            (thing.place, word, values[(thing.path, word)])
            for thing in self.root.from_below() if not thing.island for word, _, _ in thing.effects]
        everything = self.root.everything()
        asked = [(thing.place if thing in everything else None, word, question) for _, word, thing, _, question, _ in self.line]
        focus = self.buttons().index(self.focus) if self.focus else None
        return (shown(self.page), focus, tuple(armed), tuple(asked))
