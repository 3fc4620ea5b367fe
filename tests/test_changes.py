"""What operators and properties reach changes only what it created, and no loop changes what it walks."""
import ast
import textwrap
import unittest

from test_language import files

OPERATORS = {"__or__", "__rshift__", "__invert__", "__contains__", "__getitem__", "__bool__", "__iter__", "__eq__", "__str__",
             "__repr__", "__len__"}
CHANGING = set("append clear extend insert pop remove reverse setdefault update sort add discard".split())


def trees():
    for path in files():
        with open(path, encoding="utf-8") as source:
            yield path, ast.parse(source.read())


def functions_of(tree):
    return [node for node in ast.walk(tree) if isinstance(node, ast.FunctionDef)]


def is_property(function):
    return any(isinstance(mark, ast.Name) and mark.id == "property" for mark in function.decorator_list)


def creates(node):
    """Whether a value is created on the spot: by a literal, list, dict, sorted or a list comprehension."""
    if isinstance(node, (ast.List, ast.Dict, ast.ListComp)):
        return True
    return isinstance(node, ast.Call) and isinstance(node.func, ast.Name) and node.func.id in ("list", "dict", "sorted")


def names_in(node):
    return {part.id for part in ast.walk(node) if isinstance(part, ast.Name)}


def targets_of(node):
    if isinstance(node, (ast.Assign, ast.Delete)):
        rows = node.targets
    else:
        rows = [node.target] if isinstance(node, ast.AugAssign) else []
    return [part for row in rows for part in (row.elts if isinstance(row, (ast.Tuple, ast.List)) else [row])]


def created_names(function):
    """The names that a function assigns nothing but what it creates, and all other names that it binds."""
    other = {arg.arg for arg in ast.walk(function.args) if isinstance(arg, ast.arg)}
    made = set()
    for node in ast.walk(function):
        if isinstance(node, ast.Assign):
            plain = [target for target in node.targets if isinstance(target, ast.Name)]
            (made if creates(node.value) else other).update(target.id for target in plain)
            for target in node.targets:
                if isinstance(target, (ast.Tuple, ast.List)):
                    other |= names_in(target)
        if isinstance(node, (ast.For, ast.comprehension)):
            other |= names_in(node.target)
    return made - other, other


def changes(function):
    """What a function changes, or calls, that it did not create, each as (line, text)."""
    made, other = created_names(function)
    found = []
    for node in ast.walk(function):
        for part in targets_of(node):
            created = isinstance(part, ast.Subscript) and isinstance(part.value, ast.Name) and part.value.id in made
            if not isinstance(part, ast.Name) and not created:
                found.append((part.lineno, ast.unparse(part)))
        if isinstance(node, ast.Call) and isinstance(node.func, ast.Name) and node.func.id in made | other:
            found.append((node.lineno, ast.unparse(node.func)))
        if isinstance(node, ast.Call) and isinstance(node.func, ast.Attribute) and node.func.attr in CHANGING:
            if not isinstance(node.func.value, ast.Name) or node.func.value.id not in made:
                found.append((node.lineno, ast.unparse(node.func)))
    return found


def called_names(function):
    found = set()
    for node in ast.walk(function):
        if isinstance(node, ast.Call):
            found |= {node.func.id} if isinstance(node.func, ast.Name) else {node.func.attr}
    return found - {"__init__"}


def changed_by_reach(trees):
    """What is changed by all that operators and properties reach, where a bare name stands for all that have it."""
    functions = [(path, function) for path, tree in trees for function in functions_of(tree)]
    named = {}
    for path, function in functions:
        named.setdefault(function.name, []).append((path, function))
    row = [(path, function) for path, function in functions if function.name in OPERATORS or is_property(function)]
    seen = []
    for path, function in row:
        if (path, function.lineno) not in seen:
            seen.append((path, function.lineno))
            row.extend(more for name in sorted(called_names(function)) for more in named.get(name, ()))
    return sorted({(path, function.name, line) for path, function in row for line in changes(function)}), seen


def same_lists(function):
    """A dict from names to all names that one of both is assigned to, or is assigned, again and again."""
    groups = {}
    for node in ast.walk(function):
        if isinstance(node, ast.Assign) and isinstance(node.value, ast.Name):
            for target in node.targets:
                if isinstance(target, ast.Name):
                    joined = groups.get(target.id, {target.id}) | groups.get(node.value.id, {node.value.id})
                    groups.update({name: joined for name in joined})
    return groups


def walked_names(loop):
    """The names of what a loop walks, straight or through enumerate, zip, reversed or items."""
    if isinstance(loop, ast.Name):
        return {loop.id}
    if isinstance(loop, (ast.IfExp, ast.BoolOp, ast.Attribute)):
        return {ast.unparse(loop)} | names_in(loop)
    if isinstance(loop, ast.Call):
        direct = isinstance(loop.func, ast.Name) and loop.func.id in ("enumerate", "zip", "reversed")
        parts = loop.args if direct else [loop.func.value] if isinstance(loop.func, ast.Attribute) else []
        return {name for part in parts for name in walked_names(part)}
    return set()


def changed_while_walked(function):
    """The names of what a loop of a function walks and its rows change."""
    groups = same_lists(function)
    found = []
    for loop in ast.walk(function):
        if isinstance(loop, ast.For):
            walked = {other for name in walked_names(loop.iter) for other in groups.get(name, {name})}
            for node in [part for row in loop.body for part in ast.walk(row)]:
                changed = [ast.unparse(part.value) for part in targets_of(node) if isinstance(part, ast.Subscript)]
                if isinstance(node, ast.Call) and isinstance(node.func, ast.Attribute) and node.func.attr in CHANGING:
                    changed.append(ast.unparse(node.func.value))
                found += [(loop.lineno, name) for name in changed if name in walked]
    return found


class TestChanges(unittest.TestCase):
    def test_what_operators_and_properties_reach(self):
        found, seen = changed_by_reach(list(trees()))
        self.assertEqual(found, [])
        self.assertGreater(len(seen), 60)

    def test_the_test_sees_one_name_for_two_functions(self):
        one = "class Box:\n    def __rshift__(self, other):\n        return check(self)\n    def check(self):\n        self.rows.append(1)\n"
        other = "def check(box):\n    found, more = {}, {}\n    found[box] = 1\n    rows = {key: 1 for key in more}\n    rows[box] = 2\n    return rows\n"
        found, _ = changed_by_reach([("one", ast.parse(one)), ("other", ast.parse(other))])
        self.assertEqual([(path, name, text) for path, name, (_, text) in found],
                         [("one", "check", "self.rows.append"), ("other", "check", "found[box]"), ("other", "check", "rows[box]")])
        fine = "def check(box):\n    found = {}\n    found[box] = 1\n    rows = list(box)\n    rows.append(2)\n    return rows\n"
        self.assertEqual(changed_by_reach([("one", ast.parse(one.replace("def check", "def other"))), ("other", ast.parse(fine))])[0], [])

    def test_no_loop_changes_what_it_walks(self):
        for path, tree in trees():
            for function in functions_of(tree):
                self.assertEqual(changed_while_walked(function), [], (path, function.name))

    def test_the_test_sees_two_names_for_one_list(self):
        rows = ("later = []\n    for state in row:\n        later.append(state)\n    row = later",
                "for at, state in enumerate(row):\n        row[at] = 1", "for state in row if more else later:\n        row.append(1)",
                "for state, word in row.items():\n        del row[state]")
        for lines in rows:
            tree = ast.parse(textwrap.dedent("def built(row, more, later):\n    " + lines))
            self.assertEqual(len(changed_while_walked(functions_of(tree)[0])), 1, lines)
        for lines in ("for state in list(row):\n        row.append(state)", "later = []\n    for state in row:\n        later.append(state)\n    row = list(later)"):
            tree = ast.parse("def built(row):\n    " + lines)
            self.assertEqual(changed_while_walked(functions_of(tree)[0]), [])


if __name__ == "__main__":
    unittest.main()
