"""The document's example, and the names of its interface."""

import inspect
import unittest

from lastopen import following, mending, orders, papers, seeing, ways
from lastopen.codes import Code
from lastopen.following import follow
from lastopen.mending import fewest, grown, least_code
from lastopen.orders import needless, outdone
from lastopen.papers import is_paper, paper
from lastopen.rules import Rule
from lastopen.seeing import blind, blind_count, sees
from lastopen.ways import direct, rows, whole


class Example(unittest.TestCase):

    def test_rule(self):
        even = Rule(["a", "b"], [["a", "b"], ["-a", "-b"]])
        self.assertEqual([len(even), even.settings(), ["-b", "-a"] in even],
                         [2, [("a", "b"), ("-a", "-b")], True])
        self.assertEqual([even.shortest(), even.forced(["a"]), (even & ~even).shortest()],
                         [[("a", "-b"), ("-a", "b")], ["b"], [()]])

    def test_code(self):
        code = Code(["a", "b"], [["a", "h"], ["a", "-h"], ["-a", "b"]], helpers=["h"])
        self.assertEqual(code.rule().settings(), [("a", "b")])
        self.assertEqual([follow(code, []), follow(code, ["a"]), follow(code, ["-b"])], [[], ["b"], None])
        self.assertEqual([blind(code), sees(code, "dead"), blind_count(code)], [((), "a"), True, 2])

    def test_mending(self):
        code = Code(["a", "b"], [["a", "h"], ["a", "-h"], ["-a", "b"]], helpers=["h"])
        self.assertEqual([fewest(code), grown(code).clauses()[3:], least_code(code.rule()).clauses()],
                         [[("a",)], [("a",)], [("a",), ("b",)]])

    def test_papers(self):
        even = Rule(["a", "b"], [["a", "b"], ["-a", "-b"]])
        shown, steps = paper(whole(even))
        self.assertEqual([shown, len(steps), is_paper(whole(even), (shown, steps)), is_paper(whole(even), (shown, []))],
                         [[("a", "b"), ("-a", "-b")], 4, True, False])

    def test_orders(self):
        code = Code(["a", "b"], [["a", "h"], ["a", "-h"], ["-a", "b"]], helpers=["h"])
        one = direct(Rule(["a"], [["a"]]) | Rule(["b"], [["b"]]))
        self.assertEqual([one.clauses(), outdone(code, one), outdone(one, code), needless(one.more([["a"]]))],
                         [[("a", "b")], None, (("a",), "b"), [0]])

    def test_ways(self):
        even = Rule(["a", "b"], [["a", "b"], ["-a", "-b"]])
        self.assertEqual(rows(even, ["x", "y"]).clauses()[:5],
                         [("a", "-x"), ("b", "-x"), ("-a", "-y"), ("-b", "-y"), ("-a", "x")])
        self.assertEqual(direct(Rule(["a"], [["a"]]) | Rule(["b"], [["b"]])).clauses(), [("a", "b")])
        other = whole(Rule(["b", "c"], [["b", "-c"], ["-b", "c"]]))
        self.assertEqual(follow(whole(even) + other, ["c"]), ["-a", "-b"])


class Interface(unittest.TestCase):

    def parameters(self, kind, name):
        return [str(told) for told in inspect.signature(vars(kind)[name]).parameters.values()][1:]

    def check_functions(self, module, functions):
        for name, told in functions.items():
            function = vars(module)[name]
            self.assertEqual(function.__module__, module.__name__)
            self.assertEqual([str(parameter) for parameter in inspect.signature(function).parameters.values()], told)

    def test_functions(self):
        self.check_functions(ways, {"direct": ["rule"], "whole": ["rule"], "rows": ["rule", "helpers"]})
        self.check_functions(following, {"follow": ["code", "setting"], "drawings": ["code", "setting"],
                                         "are_drawings": ["code", "setting", "thing"]})
        level = "level='forced'"
        self.check_functions(seeing, {"blind": ["code", level], "sees": ["code", level], "blind_count": ["code", level]})
        self.check_functions(papers, {"paper": ["code", level], "is_paper": ["code", "thing", level]})
        self.check_functions(orders, {"outdone": ["one", "other"], "needless": ["code"], "trimmed": ["code"]})
        self.check_functions(mending, {"fewest": ["code", level], "needed": ["rule"], "least_code": ["rule"],
                                       "grown": ["code"]})

    def test_rule(self):
        self.assertEqual(Rule.__module__, "lastopen.rules")
        for name, told in {"__init__": ["signs", "settings"], "signs": [], "settings": [], "forced": ["setting"],
                           "shortest": [], "turned": ["name"]}.items():
            self.assertEqual(self.parameters(Rule, name), told)
        for name in ("len", "contains", "and", "or", "invert", "sub", "le", "lt", "eq"):
            self.assertIn("__" + name + "__", vars(Rule))

    def test_code(self):
        self.assertEqual(Code.__module__, "lastopen.codes")
        for name, told in {"__init__": ["signs", "clauses", "helpers=()"], "signs": [], "helpers": [], "clauses": [],
                           "rule": [], "total": [], "more": ["clauses"], "less": ["index"]}.items():
            self.assertEqual(self.parameters(Code, name), told)
        for name in ("len", "contains", "add", "eq"):
            self.assertIn("__" + name + "__", vars(Code))


if __name__ == "__main__":
    unittest.main()
