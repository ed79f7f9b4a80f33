"""The names, arguments and kinds of what the document's interface lists, for the modules that are there."""

import importlib
import inspect
import unittest

FUNCTIONS = {
    "needs": {
        "settings": "ranges", "needed": "works ranges", "shown_by": "works ranges name",
        "apart": "first second ranges", "enough": "works ranges names",
    },
    "patches": {
        "staying": "old new", "between": "old new", "separate": "first second", "weavings": "first second",
    },
    "laying": {"measure": "label sizes"},
    "focusing": {"buttons": "page"},
    "rows": {
        "matched": "key old new", "slips": "key old new", "losses": "key old new", "faithful": "key menu",
        "least_pair": "key size places", "coarsest": "keys menu",
    },
    "things": {"least_parting": "key menu"},
    "shapes": {
        "text_shape": "form", "button_shape": "word", "row_shape": "parts", "col_shape": "parts",
        "when_shape": "form first second", "put_shape": "component forms",
        "each_shape": "form menu key component forms", "numbered": "shape", "levels": "shape",
    },
    "effects": {"sound": "log", "behind": "board entries", "parted": "form ranges names"},
    "asks": {"fence_of": "word", "late_row": "word far room questions", "weakest": "far room questions"},
    "sessions": {"tried": "session events", "disagreement": "session anew", "play": "house events"},
    "rounds": {"drawing_orders": "rounds"},
    "schedules": {"all_schedules": "names", "spoiling": "schedule needs"},
    "islands": {
        "woven": "events places", "end_look": "house events", "first_unlike": "house events",
        "least_lots": "house events",
    },
    "marks": {"all_marks": "house", "weak_marks": "house", "mended": "house marks"},
    "judging": {
        "judge": "house kinds", "wrong_at": "house row", "blame": "house row", "assure": "house kinds",
    },
    "mending": {"mends": "house kinds", "alike": "first second kinds"},
    "surroundings": {"stub": "component child", "widest": "house name"},
    "papers": {
        "paper": "house name", "papers": "house", "vouched": "house", "output": "component setting",
        "needed_looks": "component", "thinned": "house",
    },
    "writing": {"write_place": "place", "write_house": "house"},
    "reading": {"read_place": "text", "read_house": "lines"},
}

GENERATORS = ("settings", "weavings", "drawing_orders", "all_schedules", "woven")

LETS = "entry who question ticket"

# For each class the parameters of what it is made with (None where none are told), its methods with theirs, and its
# properties.
CLASSES = {
    ("forms", "Form"): ("parts", {
        "__call__": "values", "__add__": None, "__eq__": None, "__str__": "", "constant": "value", "named": "name",
        "summed": "first rest",
    }, "parts names"),
    ("pages", "Page"): ("root", {
        "__getitem__": None, "__contains__": None, "__iter__": "", "__eq__": None, "parent": "mark",
    }, "top shown"),
    ("patches", "Patches"): ("page rows", {"__iter__": "", "__add__": None, "__neg__": ""}, "page end many"),
    ("laying", "Laid"): ("page", {
        "__getitem__": None, "__iter__": "", "hit": "x y", "take": "patches",
    }, "page size"),
    ("focusing", "Focus"): ("page rule", {"put": "mark", "step": "way", "turn": "page"}, "page at"),
    ("rows", "Key"): ("form", {"__call__": "item at", "idents": "row", "__le__": None}, "parts"),
    ("things", "Known"): ("key row", {
        "__getitem__": None, "__setitem__": None, "__iter__": "", "show": "row",
    }, ""),
    ("things", "Things"): ("row", {"__getitem__": None, "__setitem__": None, "__iter__": "", "show": "row"}, ""),
    ("components", "Component"): (
        "name shape takes hears cells asks gives effects deeds looks island",
        {"size_of": "name", "changed": "parts"}, "names",
    ),
    ("houses", "House"): ("components root far room focus elder", {
        "__getitem__": None, "__iter__": "", "changed": "parts", "replaced": "component",
    }, "most"),
    ("effects", "Effects"): ("", {"bring": "entries", "armed": "", "copy": ""}, ""),
    ("asks", "Entry"): ("owner word who ticket question answer", {}, ""),
    ("asks", "Line"): ("far room", {
        "send": "owner word who question", "take": "number", "entries": "", "turn": "", "copy": "",
    }, "edition"),
    ("asks", "Fence"): ("", {"lets": LETS, "__le__": None}, ""),
    ("asks", "Own"): ("", {"lets": LETS, "__le__": None}, ""),
    ("asks", "Same"): ("", {"lets": LETS, "__le__": None}, ""),
    ("asks", "Both"): ("", {"lets": LETS, "__le__": None}, ""),
    ("asks", "Last"): ("", {"lets": LETS, "__le__": None}, ""),
    ("anew", "Anew"): ("house", {
        "do": "event", "look": "frozen", "instances": "", "value": "place name", "likeness": "", "copy": "",
    }, "page"),
    ("sessions", "Session"): ("house", {
        "do": "event", "look": "", "laid": "", "instances": "", "value": "place name", "armed": "", "questions": "",
        "frozen": "", "queued": "", "events": "kinds", "likeness": "", "copy": "", "trying": "",
    }, "page focused at_rest"),
    ("sessions", "Trying"): ("session", {"__enter__": "", "__exit__": None}, ""),
    ("rounds", "Rounds"): ("house", {
        "instances": "", "set_cell": "place cell value", "due": "", "draw": "place", "settle": "", "copy": "",
    }, "shown"),
    ("schedules", "Schedule"): ("names sets", {
        "__contains__": None, "__le__": None, "__eq__": None, "__iter__": "", "missed": "needs", "least": "names needs",
    }, ""),
    ("judging", "Verdict"): (None, {}, ""),
    ("papers", "Paper"): (None, {"__bool__": ""}, ""),
    ("desk", "Desk"): ("house", {"say": "line", "listing": "lines"}, ""),
}

# The parameters that are passed by keyword.
BY_KEYWORD = {
    ("components", "Component"): "takes hears cells asks gives effects deeds looks island",
    ("houses", "House"): "far room focus elder",
}


def parameters(function):
    return list(inspect.signature(function).parameters)


class Interface(unittest.TestCase):
    def test_functions(self):
        for file, functions in FUNCTIONS.items():
            module = importlib.import_module(f"drawnanew.{file}")
            for name, told in functions.items():
                with self.subTest(name):
                    function = getattr(module, name)
                    self.assertEqual(parameters(function), told.split())
                    self.assertEqual(function.__module__, module.__name__)
                    self.assertIs(inspect.isgeneratorfunction(function), name in GENERATORS)

    def test_classes(self):
        for (file, name), (made, methods, properties) in CLASSES.items():
            with self.subTest(name):
                told = getattr(importlib.import_module(f"drawnanew.{file}"), name)
                self.assertEqual(told.__module__, f"drawnanew.{file}")
                if made is not None:
                    self.assertEqual(parameters(told), made.split())
                for method, words in methods.items():
                    self.assertIn(method, vars(told))
                    if words is not None:
                        found = [word for word in parameters(getattr(told, method)) if word != "self"]
                        self.assertEqual(found, words.split())
                for word in properties.split():
                    self.assertIsInstance(vars(told)[word], property)

    def test_all_kinds_of_events_are_meant_where_none_are_told(self):
        kinds = importlib.import_module("drawnanew.sessions").KINDS
        for file, name in [("judging", "judge"), ("judging", "assure"), ("mending", "mends"), ("mending", "alike")]:
            function = getattr(importlib.import_module(f"drawnanew.{file}"), name)
            self.assertEqual(inspect.signature(function).parameters["kinds"].default, kinds)

    def test_a_listing_is_a_generator(self):
        self.assertTrue(inspect.isgeneratorfunction(importlib.import_module("drawnanew.desk").Desk.listing))

    def test_by_keyword(self):
        for (file, name), words in BY_KEYWORD.items():
            told = getattr(importlib.import_module(f"drawnanew.{file}"), name)
            found = [word for word, told in inspect.signature(told).parameters.items() if told.kind is told.KEYWORD_ONLY]
            self.assertEqual(found, words.split())

    def test_made_off_the_class(self):
        form = importlib.import_module("drawnanew.forms").Form
        self.assertIsInstance(vars(form)["constant"], staticmethod)
        self.assertIsInstance(vars(form)["named"], staticmethod)
        self.assertIsInstance(vars(form)["summed"], classmethod)
        schedule = importlib.import_module("drawnanew.schedules").Schedule
        self.assertIsInstance(vars(schedule)["least"], staticmethod)


if __name__ == "__main__":
    unittest.main()
