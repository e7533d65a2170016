"""Point [41]: names, arguments and defaults of what there is, and where it is defined."""

import ast
import inspect
import os
import unittest

from copybooks import basejudge, books, deciding, errors, moments, searches, viewjudge, views

HERE = os.path.dirname(os.path.dirname(os.path.abspath(__file__)))

FUNCTIONS = {
    "moments": {"first": "(book, n)", "played": "(moment, run)"},
    "searches": {
        "reached": "(book, n, *, most=3000)",
        "shortest": "(book, n, *, kinds=('stale', 'jam', 'deaf'), most=3000)",
        "fewest": "(book, *, kinds=('stale', 'jam', 'deaf'), caches=3, most=3000)",
        "run_fault": "(book, n, thing, *, kinds=('stale', 'jam', 'deaf'))",
    },
    "views": {"views": "(book, k, *, most=3000)"},
    "viewjudge": {"closed_fault": "(book, k, thing)"},
    "deciding": {"decide": "(book, *, caches=3, most=3000)"},
    "basejudge": {
        "harm": "(book, bag, *, most=3000)",
        "base_fault": "(book, thing, runs, *, most=2000)",
    },
}

METHODS = {
    "books": {"Book": {
        "__init__": "(self, states, ups, downs, marks, wishes, answers, tasks, idles, busies)",
        "states": "(self)", "ups": "(self)", "downs": "(self)", "marks": "(self)", "wishes": "(self)",
        "answers": "(self)", "tasks": "(self)", "idles": "(self)", "busies": "(self)", "__eq__": "(self, other)",
    }},
    "moments": {"Moment": {
        "book": "(self)", "home": "(self)", "caches": "(self)", "steps": "(self)", "after": "(self, step)",
        "wrongs": "(self)", "__eq__": "(self, other)",
    }},
    "errors": {
        "NoBook": {"__init__": "(self, part, index)"}, "NoRun": {"__init__": "(self, index)"},
        "NoFamily": {"__init__": "(self, index)"}, "NoText": {"__init__": "(self, line)"},
        "TooMany": {"__init__": "(self, most)"},
    },
}

MODULES = {
    "basejudge": basejudge, "books": books, "deciding": deciding, "errors": errors, "moments": moments,
    "searches": searches, "viewjudge": viewjudge, "views": views,
}


def defined(module):
    """The names that the module's own file defines at its top."""
    with open(os.path.join(HERE, "copybooks", module + ".py"), encoding="utf-8") as file:
        tree = ast.parse(file.read())
    return {node.name for node in tree.body if isinstance(node, (ast.FunctionDef, ast.ClassDef))}


class TestInterface(unittest.TestCase):

    def test_functions(self):
        for module, functions in FUNCTIONS.items():
            for name, signature in functions.items():
                found = getattr(MODULES[module], name)
                self.assertEqual(str(inspect.signature(found)), signature, name)
                self.assertIn(name, defined(module))

    def test_methods_stand_in_their_class(self):
        for module, classes in METHODS.items():
            for name, methods in classes.items():
                self.assertIn(name, defined(module))
                for method, signature in methods.items():
                    found = vars(getattr(MODULES[module], name))[method]
                    self.assertEqual(str(inspect.signature(found)), signature, (name, method))

    def test_errors_are_defined_in_their_file(self):
        names = {name for name, value in vars(errors).items() if inspect.isclass(value)}
        self.assertEqual(names, defined("errors"))
        self.assertEqual(len(names), 23)


if __name__ == "__main__":
    unittest.main()
