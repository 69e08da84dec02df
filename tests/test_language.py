"""The files of the package keep the rules of the language, as far as they can be seen in the code."""

import os
import re
import unittest

from tests.language import breaches, imports_of, names_defined

PACKAGE = os.path.join(os.path.dirname(os.path.dirname(os.path.abspath(__file__))), "mixlabels")


def sources():
    found = {}
    for name in sorted(os.listdir(PACKAGE)):
        if name != "__pycache__":
            with open(os.path.join(PACKAGE, name), encoding="utf-8") as file:
                found[name] = file.read()
    return found


def all_defined(files):
    defined = {"methods": set(), "attributes": set()}
    for name, source in files.items():
        names, methods, attributes = names_defined(source)
        defined[f"mixlabels.{name[:-3]}"] = names
        defined["methods"] |= methods
        defined["attributes"] |= attributes
    return defined


class LanguageTest(unittest.TestCase):
    def test_files(self):
        for name in sources():
            self.assertRegex(name, r"^[a-z_]+\.py$")
        self.assertLessEqual(len(sources()), 100)
        self.assertIn("__init__.py", sources())

    def test_rules(self):
        files = sources()
        defined = all_defined(files)
        for name, source in files.items():
            self.assertEqual(breaches(name, source, defined), [])

    def test_no_circles(self):
        imported = {f"mixlabels.{name[:-3]}": imports_of(source) for name, source in sources().items()}
        done = []

        def visit(name, above):
            self.assertNotIn(name, above)
            if name not in done and name in imported:
                for inner in imported[name]:
                    visit(inner, above + [name])
                done.append(name)

        for name in imported:
            visit(name, [])

    def test_breaches_are_found(self):
        defined = {"mixlabels.errors": {"Refused"}, "methods": set(), "attributes": set()}
        wrong = [
            "import os", "x = y = 1", "def f(n):\n    return 2 ** n", "def f(n):\n    return any(x for x in n)",
            "def f(n):\n    return n / 2", "def f(list):\n    return 1", "def f(n):\n    return g(range(n))\ndef g(n):\n    return n",
            "def f(n):\n    for x in n:\n        n.append(x)", "def f():\n    raise KeyError(1)",
            "def f(n):\n    return pow(n, 2, 3)", "def f(n):\n    return n.format()", "def f(n):\n    return set(n)",
            "from math import gcd\ndef f(gcd):\n    return gcd", "def f():\n    return 1.5",
            "NUMBER = 10 ** 300", "class A:\n    def difference(self):\n        return 1",
            "class A:\n    def __init__(self):\n        self.items = 1",
        ]
        for source in wrong:
            self.assertNotEqual(breaches("wrong.py", source, defined), [], source)

    def test_interface_is_defined_where_it_is_listed(self):
        document = os.path.join(os.path.dirname(os.path.dirname(PACKAGE)), "shared", "DOC.md")
        if not os.path.exists(document):
            self.skipTest("the document is not here")
        with open(document, encoding="utf-8") as file:
            listed = file.read().split("# The interface")[1]
        files = sources()
        for chapter in listed.split("## mixlabels/")[1:]:
            name, text = chapter.split("\n", 1)
            if name in files:
                told = set(names_defined(files[name])[0]) | set(names_defined(files[name])[1])
                for word in re.findall(r"`([A-Za-z_]+)\(|([a-z_]+)\((?:k|table|oracle)", text):
                    self.assertIn(word[0] or word[1], told, name)


if __name__ == "__main__":
    unittest.main()
