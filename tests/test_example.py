"""The document's example, and the names of its interface."""

import inspect
import unittest

from lastopen.codes import Code
from lastopen.rules import Rule


class Example(unittest.TestCase):

    def test_rule(self):
        even = Rule(["a", "b"], [["a", "b"], ["-a", "-b"]])
        self.assertEqual([len(even), even.settings(), ["-b", "-a"] in even],
                         [2, [("a", "b"), ("-a", "-b")], True])
        self.assertEqual([even.shortest(), even.forced(["a"]), (even & ~even).shortest()],
                         [[("a", "-b"), ("-a", "b")], ["b"], [()]])

    def test_code(self):
        code = Code(["a", "b"], [["a", "h"], ["a", "-h"], ["-a", "b"]], helpers=["h"])
        self.assertEqual(code.rule().settings(), [("a", "b")])


class Interface(unittest.TestCase):

    def parameters(self, kind, name):
        return [str(told) for told in inspect.signature(vars(kind)[name]).parameters.values()][1:]

    def test_rule(self):
        self.assertEqual(Rule.__module__, "lastopen.rules")
        for name, told in {"__init__": ["signs", "settings"], "signs": [], "settings": [], "forced": ["setting"],
                           "shortest": [], "turned": ["name"]}.items():
            self.assertEqual(self.parameters(Rule, name), told)
        for name in ("len", "contains", "and", "or", "invert", "sub", "le", "lt", "eq"):
            self.assertIn("__" + name + "__", vars(Rule))

    def test_code(self):
        self.assertEqual(Code.__module__, "lastopen.codes")
        for name, told in {"__init__": ["signs", "clauses", "helpers=()"], "signs": [], "helpers": [], "clauses": [],
                           "rule": [], "total": [], "more": ["clauses"], "less": ["index"]}.items():
            self.assertEqual(self.parameters(Code, name), told)
        for name in ("len", "contains", "add", "eq"):
            self.assertIn("__" + name + "__", vars(Code))


if __name__ == "__main__":
    unittest.main()
