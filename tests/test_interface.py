"""Point [41]: names, arguments and defaults of what there is, and where it is defined."""

import ast
import inspect
import os
import unittest

from copybooks import (
    basejudge, bases, books, deciding, errors, families, halls, live, moments, resting, runtexts, searches, tables, texts,
    viewjudge, views,
)

HERE = os.path.dirname(os.path.dirname(os.path.abspath(__file__)))

FUNCTIONS = {
    "moments": {"first": "(book, n)", "played": "(moment, run)"},
    "searches": {
        "reached": "(book, n, *, most=3000)",
        "shortest": "(book, n, *, kinds=('stale', 'jam', 'deaf'), most=3000)",
        "fewest": "(book, *, kinds=('stale', 'jam', 'deaf'), caches=3, most=3000)",
        "run_fault": "(book, n, thing, *, kinds=('stale', 'jam', 'deaf'))",
    },
    "views": {"views": "(book, k, *, most=3000)"},
    "viewjudge": {"closed_fault": "(book, k, thing)"},
    "deciding": {"decide": "(book, *, caches=3, most=3000)"},
    "basejudge": {
        "harm": "(book, bag, *, most=3000)",
        "base_fault": "(book, thing, runs, *, most=2000)",
    },
    "bases": {
        "base": "(book, *, most=2000)", "cutoff": "(book, *, most=2000)", "greatest": "(book, *, most=2000)",
        "verdict": "(moment, *, most=2000)", "bag_verdict": "(book, bag, *, most=2000)",
        "family_cutoff": "(family, *, most=2000)",
    },
    "resting": {
        "can_rest": "(moment, i, *, most=3000)", "restless": "(book, n, *, most=3000)",
        "rests": "(book, *, caches=3, most=3000)",
    },
    "families": {
        "sort_family": "(family, *, caches=3, most=3000)", "least_mends": "(family, *, caches=3, most=3000)",
        "mends_paper": "(family, *, caches=3, most=3000)", "mends_fault": "(family, thing, papers)",
    },
    "halls": {"log_fault": "(thing)"},
    "tables": {
        "beside": "(book, *, most=3000)", "beside_run": "(book, pair, *, caches=3, most=3000)",
        "beside_fault": "(book, pair, n, thing)", "needless": "(book, *, caches=3, most=3000)",
        "used": "(book, *, most=3000)",
    },
    "texts": {"book_text": "(book)", "read_book": "(text)"},
    "runtexts": {"run_text": "(run)", "read_run": "(text)"},
}

METHODS = {
    "books": {"Book": {
        "__init__": "(self, states, ups, downs, marks, wishes, answers, tasks, idles, busies)",
        "states": "(self)", "ups": "(self)", "downs": "(self)", "marks": "(self)", "wishes": "(self)",
        "answers": "(self)", "tasks": "(self)", "idles": "(self)", "busies": "(self)", "__eq__": "(self, other)",
    }},
    "moments": {"Moment": {
        "book": "(self)", "home": "(self)", "caches": "(self)", "steps": "(self)", "after": "(self, step)",
        "wrongs": "(self)", "__eq__": "(self, other)",
    }},
    "families": {"Family": {
        "__init__": "(self, book, choices)", "book": "(self, pick)", "picks": "(self)", "__contains__": "(self, pick)",
        "__len__": "(self)",
    }},
    "halls": {"Hall": {
        "__init__": "(self, book, n, lines)", "step": "(self, line, step)", "put": "(self, line, i, value)",
        "read": "(self, line, i)", "moment": "(self, line)", "log": "(self)", "back": "(self)", "__len__": "(self)",
    }},
    "live": {"Live": {
        "__init__": "(self, book, n)", "moment": "(self)", "step": "(self, step)", "back": "(self)", "wrongs": "(self)",
        "rest": "(self, i)", "tried": "(self, action)", "__len__": "(self)", "__getitem__": "(self, index)",
        "__iter__": "(self)",
    }},
    "errors": {
        "NoBook": {"__init__": "(self, part, index)"}, "NoRun": {"__init__": "(self, index)"},
        "NoFamily": {"__init__": "(self, index)"}, "NoText": {"__init__": "(self, line)"},
        "TooMany": {"__init__": "(self, most)"},
    },
}

MODULES = {
    "basejudge": basejudge, "bases": bases, "books": books, "deciding": deciding, "errors": errors, "families": families,
    "halls": halls, "live": live, "moments": moments, "resting": resting, "runtexts": runtexts, "searches": searches,
    "tables": tables, "texts": texts, "viewjudge": viewjudge, "views": views,
}


def defined(module):
    """The names that the module's own file defines at its top."""
    with open(os.path.join(HERE, "copybooks", module + ".py"), encoding="utf-8") as file:
        tree = ast.parse(file.read())
    return {node.name for node in tree.body if isinstance(node, (ast.FunctionDef, ast.ClassDef))}


class TestInterface(unittest.TestCase):

    def test_functions(self):
        for module, functions in FUNCTIONS.items():
            for name, signature in functions.items():
                found = getattr(MODULES[module], name)
                self.assertEqual(str(inspect.signature(found)), signature, name)
                self.assertIn(name, defined(module))

    def test_methods_stand_in_their_class(self):
        for module, classes in METHODS.items():
            for name, methods in classes.items():
                self.assertIn(name, defined(module))
                for method, signature in methods.items():
                    found = vars(getattr(MODULES[module], name))[method]
                    self.assertEqual(str(inspect.signature(found)), signature, (name, method))

    def test_nothing_is_left_out(self):
        # Every module that the document lists is here, with all its functions and classes.
        self.assertEqual(sorted(MODULES), sorted({*FUNCTIONS, *METHODS}))
        self.assertEqual(len(MODULES), 16)
        self.assertEqual(sum(len(functions) for functions in FUNCTIONS.values()), 34)

    def test_errors_are_defined_in_their_file(self):
        names = {name for name, value in vars(errors).items() if inspect.isclass(value)}
        self.assertEqual(names, defined("errors"))
        self.assertEqual(len(names), 23)


if __name__ == "__main__":
    unittest.main()
