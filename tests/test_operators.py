"""What operators and properties run, told by names alone, changes nothing and calls nothing that it is passed."""

import ast
import pathlib
import unittest

PACKAGE = pathlib.Path(__file__).resolve().parent.parent / "drawnanew"

# The methods with two underscores at each side that may change something.
FREE = ("__init__", "__call__", "__iter__", "__enter__", "__exit__", "__setitem__")

CHANGING = (
    "append", "clear", "extend", "insert", "pop", "remove", "reverse", "setdefault", "update", "sort", "add", "discard",
)


def marked(function, ending):
    """Whether a decorator with this ending stands over the function."""
    return any(ast.unparse(told).endswith(ending) for told in function.decorator_list)


def by_name(trees):
    """The functions and methods of each name; by the name of a class, its `__init__`. Setters are left out."""
    found = {}
    for tree in trees:
        for node in ast.walk(tree):
            if isinstance(node, ast.FunctionDef) and not marked(node, ".setter"):
                found.setdefault(node.name, []).append(node)
            if isinstance(node, ast.ClassDef):
                found.setdefault(node.name, []).extend(
                    [part for part in node.body if isinstance(part, ast.FunctionDef) and part.name == "__init__"])
    return found


def called(function):
    """The names that the function calls."""
    calls = [node.func for node in ast.walk(function) if isinstance(node, ast.Call)]
    return [told.id if isinstance(told, ast.Name) else told.attr for told in calls]


def parameters(function):
    return [told.arg for told in ast.walk(function.args) if isinstance(told, ast.arg)]


def own_names(function):
    """The local variables that are no parameters; that they hold what the function created is not looked at here."""
    stored = [node.id for node in ast.walk(function) if isinstance(node, ast.Name) and isinstance(node.ctx, ast.Store)]
    return [name for name in stored if name not in parameters(function)]


def stem(node):
    """The name of which this is an item, or None."""
    while isinstance(node, ast.Subscript):
        node = node.value
    return node.id if isinstance(node, ast.Name) else None


def changes(function):
    """What the function changes, or calls although it was passed it, as written."""
    own = own_names(function)
    found = []
    for node in ast.walk(function):
        if isinstance(node, ast.Attribute) and not isinstance(node.ctx, ast.Load):
            if function.name != "__init__" or stem(node.value) != "self":
                found.append(ast.unparse(node))
        if isinstance(node, ast.Subscript) and not isinstance(node.ctx, ast.Load) and stem(node) not in own:
            found.append(ast.unparse(node))
        if isinstance(node, ast.Call) and isinstance(node.func, ast.Name):
            if node.func.id in parameters(function) + own:
                found.append(ast.unparse(node))
        if isinstance(node, ast.Call) and isinstance(node.func, ast.Attribute):
            if node.func.attr in CHANGING and stem(node.func.value) not in own:
                found.append(ast.unparse(node))
    return found


def run_by(start, known):
    """The start and all functions that it can run, by their names."""
    found = [start]
    for function in found:
        for name in called(function):
            found.extend([told for told in known.get(name, []) if told not in found])
    return found


def told_changes(start, known):
    return [(function.name, written) for function in run_by(start, known) for written in changes(function)]


def must_not_change(function):
    """Whether the function is an operator, tells of its object, or is a property."""
    double = function.name.startswith("__") and function.name not in FREE
    return double or marked(function, "property")


class Operators(unittest.TestCase):
    def setUp(self):
        self.known = by_name([ast.parse(file.read_text()) for file in sorted(PACKAGE.glob("*.py"))])

    def test_operators_and_properties_run_nothing_that_changes(self):
        starts = [told for name in self.known for told in self.known[name] if must_not_change(told)]
        self.assertIn("__neg__", [told.name for told in starts])
        self.assertIn("focused", [told.name for told in starts])
        for start in starts:
            with self.subTest(f"{start.name}, line {start.lineno}"):
                self.assertEqual(told_changes(start, self.known), [])

    def test_a_change_is_found_by_name(self):
        source = "\n".join([
            "def _step(rows):", "    return len(rows)",
            "class Row:", "    def __len__(self):", "        return _step(self.rows)",
        ])
        other = "def _step(machine):\n    machine.do()\n    machine.rows[0] = 1\n    machine.many = 1"
        alone = by_name([ast.parse(source)])
        self.assertEqual(told_changes(alone["__len__"][0], alone), [])
        both = by_name([ast.parse(source), ast.parse(other)])
        self.assertEqual(sorted(told_changes(both["__len__"][0], both)), [
            ("_step", "machine.many"), ("_step", "machine.rows[0]")])

    def test_a_call_of_what_is_passed_is_found(self):
        known = by_name([ast.parse("def told(works):\n    found = []\n    found.append(works(1))\n    works.add(2)")])
        self.assertEqual(sorted(told_changes(known["told"][0], known)), [
            ("told", "works(1)"), ("told", "works.add(2)")])


if __name__ == "__main__":
    unittest.main()
