"""Point 1 and the head of the interface: what holds in every module."""

import ast
import importlib
import inspect
import pathlib
import unittest

import tribunal

FOLDER = pathlib.Path(tribunal.__file__).parent

# For each module: its functions and methods with their parameters, and its classes.
FUNCTIONS = {
    "votes": {
        "proposal": ["height", "turn", "block"],
        "prevote": ["height", "turn", "block", "lean"],
        "precommit": ["height", "turn", "block"],
        "is_vote": ["statement"],
        "clash": ["one", "other"],
    },
}
CLASSES = {
    "errors": {
        "TribunalError": {}, "BadWeights": {}, "BadLine": {}, "BadJournal": {}, "BadArchive": {},
        "BadScript": {}, "BadCommand": {}, "Refused": {}, "BadPaper": {}, "Forged": {},
    },
    "committee": {
        "Committee": {
            "__init__": ["self", "weights"],
            "weight_of": ["self", "members"],
            "is_quorum": ["self", "members"],
            "is_third": ["self", "members"],
            "leader": ["self", "height", "turn"],
        },
    },
}
LIBRARY = {"heapq", "math", "itertools", "collections"}
OUTSIDE = {
    "open", "input", "print", "exec", "eval", "compile", "globals", "locals", "vars", "breakpoint", "__import__",
}


def module(name):
    return importlib.import_module("tribunal." + name)


def trees():
    """Each file of the package with its text, read."""
    for path in sorted(FOLDER.glob("**/*.py")):
        yield path.name, ast.parse(path.read_text(encoding="utf-8"))


class Interface(unittest.TestCase):
    def assert_defined(self, made, name, kind):
        self.assertTrue(kind(made), name)
        self.assertEqual(made.__module__, name)

    def test_each_function_stands_in_its_module_with_its_arguments(self):
        for name, functions in FUNCTIONS.items():
            for word, parameters in functions.items():
                made = getattr(module(name), word)
                self.assert_defined(made, "tribunal." + name, inspect.isfunction)
                self.assertEqual(list(inspect.signature(made).parameters), parameters, word)

    def test_each_class_stands_in_its_module_with_its_own_methods(self):
        for name, classes in CLASSES.items():
            for word, methods in classes.items():
                made = getattr(module(name), word)
                self.assert_defined(made, "tribunal." + name, inspect.isclass)
                for method, parameters in methods.items():
                    self.assertIn(method, vars(made))
                    self.assertEqual(list(inspect.signature(vars(made)[method]).parameters), parameters, method)

    def test_arguments_can_be_passed_by_their_names(self):
        made = module("committee").Committee(weights=[1, 2])
        self.assertEqual(made.weight_of(members=[1]), 2)
        self.assertIs(made.is_quorum(members=[1]), False)
        self.assertIs(made.is_third(members=[1]), True)
        self.assertEqual(made.leader(height=1, turn=1), 0)
        votes = module("votes")
        one = votes.prevote(height=1, turn=2, block="a", lean=0)
        other = votes.precommit(height=1, turn=1, block="b")
        self.assertIs(votes.clash(one=one, other=other), True)
        self.assertIs(votes.is_vote(statement=votes.proposal(height=1, turn=0, block="a")), False)


class Outside(unittest.TestCase):
    def test_the_package_imports_only_itself_and_what_the_language_allows(self):
        for name, tree in trees():
            for node in ast.walk(tree):
                if isinstance(node, ast.Import):
                    self.assertEqual((name, [part.name for part in node.names]), ("__main__.py", ["sys"]))
                if isinstance(node, ast.ImportFrom):
                    self.assertEqual(node.level, 0, name)
                    self.assertIn(node.module.split(".")[0], LIBRARY | {"tribunal", "__future__"}, name)

    def test_the_package_names_nothing_that_reaches_outside(self):
        for name, tree in trees():
            used = {node.id for node in ast.walk(tree) if isinstance(node, ast.Name)}
            allowed = {"print"} if name == "__main__.py" else set()
            self.assertEqual(used & OUTSIDE, allowed & used, name)

    def test_the_same_calls_give_the_same_answers(self):
        first = answers()
        self.assertEqual(first, answers())


class Size(unittest.TestCase):
    def test_files_and_lines_and_functions_are_short_and_plain(self):
        for path in sorted(FOLDER.glob("**/*.py")):
            text = path.read_text(encoding="utf-8")
            lines = text.split("\n")
            self.assertLess(len(lines), 400, path.name)
            self.assertLessEqual(max(len(line) for line in lines), 120, path.name)
            self.assertTrue(all(" " <= sign <= "~" or sign == "\n" for sign in text), path.name)

    def test_functions_are_small(self):
        for name, tree in trees():
            for node in ast.walk(tree):
                if isinstance(node, ast.FunctionDef):
                    self.assertLessEqual(node.end_lineno - node.lineno, 39, (name, node.name))


def answers():
    made = module("committee").Committee([3, 1, 2])
    votes = module("votes")
    return (
        made.weights, made.size, made.total, made.weight_of([2, 0]), made.is_quorum([0, 2]), made.is_third([1]),
        made.leader(5, 9), votes.clash(votes.precommit(0, 0, "a"), votes.prevote(0, 1, "b", None)),
    )


if __name__ == "__main__":
    unittest.main()
