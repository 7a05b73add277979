"""The document's example, and the names of its interface."""

import doctest
import inspect
import pathlib
import unittest

from lastopen import building, code_texts, following, leading, mending, orders, papers, seeing, ways
from lastopen.building import either, lifted, put_out, sharpens
from lastopen.code_texts import write_code
from lastopen.codes import Code
from lastopen.following import follow
from lastopen.leading import Led, solved
from lastopen.mending import fewest, grown, least_code
from lastopen.orders import needless, outdone
from lastopen.papers import is_paper, paper
from lastopen.rules import Rule
from lastopen.seeing import blind, blind_count, sees
from lastopen.ways import direct, rows, whole
from lastopen.webs import Web


class Example(unittest.TestCase):

    def test_rule(self):
        even = Rule(["a", "b"], [["a", "b"], ["-a", "-b"]])
        self.assertEqual([len(even), even.settings(), ["-b", "-a"] in even],
                         [2, [("a", "b"), ("-a", "-b")], True])
        self.assertEqual([even.shortest(), even.forced(["a"]), (even & ~even).shortest()],
                         [[("a", "-b"), ("-a", "b")], ["b"], [()]])

    def test_code(self):
        code = Code(["a", "b"], [["a", "h"], ["a", "-h"], ["-a", "b"]], helpers=["h"])
        self.assertEqual(code.rule().settings(), [("a", "b")])
        self.assertEqual([follow(code, []), follow(code, ["a"]), follow(code, ["-b"])], [[], ["b"], None])
        self.assertEqual([blind(code), sees(code, "dead"), blind_count(code)], [((), "a"), True, 2])

    def test_mending(self):
        code = Code(["a", "b"], [["a", "h"], ["a", "-h"], ["-a", "b"]], helpers=["h"])
        self.assertEqual([fewest(code), grown(code).clauses()[3:], least_code(code.rule()).clauses()],
                         [[("a",)], [("a",)], [("a",), ("b",)]])

    def test_papers(self):
        even = Rule(["a", "b"], [["a", "b"], ["-a", "-b"]])
        shown, steps = paper(whole(even))
        self.assertEqual([shown, len(steps), is_paper(whole(even), (shown, steps)), is_paper(whole(even), (shown, []))],
                         [[("a", "b"), ("-a", "-b")], 4, True, False])

    def test_orders(self):
        code = Code(["a", "b"], [["a", "h"], ["a", "-h"], ["-a", "b"]], helpers=["h"])
        one = direct(Rule(["a"], [["a"]]) | Rule(["b"], [["b"]]))
        self.assertEqual([one.clauses(), outdone(code, one), outdone(one, code), needless(one.more([["a"]]))],
                         [[("a", "b")], None, (("a",), "b"), [0]])

    def test_building(self):
        code = Code(["a", "b"], [["a", "h"], ["a", "-h"], ["-a", "b"]], helpers=["h"])
        self.assertEqual([put_out(code, "h").clauses(), sharpens(code, "h"), sees(put_out(code, "h")), sees(lifted(code))],
                         [[("-a", "b"), ("a",)], True, True, True])
        even = Rule(["a", "b"], [["a", "b"], ["-a", "-b"]])
        both = either(whole(even), whole(~even))
        self.assertEqual([both.signs(), len(both.rule()), sees(both)], [["a", "b"], 4, True])

    def test_webs_and_leading(self):
        even = Rule(["a", "b"], [["a", "b"], ["-a", "-b"]])
        web = Web([whole(even), whole(Rule(["b", "c"], [["b", "-c"], ["-b", "c"]]))])
        self.assertEqual([len(web), web.sees(), web.forced(["a"]), follow(web.code(), ["c"])],
                         [2, True, ["b", "-c"], ["-a", "-b"]])
        led = Led(web.code())
        self.assertEqual([led.put("-c"), led.why("a"), len(led), led.undo(), led.drawn()],
                         [["a", "b"], ["-c"], 1, "-c", []])
        code = Code(["a", "b"], [["a", "h"], ["a", "-h"], ["-a", "b"]], helpers=["h"])
        self.assertEqual([solved(code, ["-a", "-b"]), solved(web.code(), ["a", "-c", "b"])],
                         [("found", ("a", "b"), 1), ("found", ("a", "b", "-c"), 0)])

    def test_texts(self):
        code = Code(["a", "b"], [["a", "h"], ["a", "-h"], ["-a", "b"]], helpers=["h"])
        self.assertEqual(write_code(code).split("\n"),
                         ["sign a", "sign b", "helper h", "clause a h", "clause a -h", "clause -a b"])

    def test_all_lines_of_the_document(self):
        document = pathlib.Path(__file__).resolve().parent.parent.parent / "shared" / "DOC.md"
        if not document.exists():
            self.skipTest("the document is not here")
        lines = document.read_text(encoding="utf-8").split("```")[1]
        told = doctest.DocTestParser().get_doctest(lines, {}, "document", None, 0)
        self.assertTrue(len(told.examples) > 30)
        self.assertEqual(doctest.DocTestRunner().run(told).failed, 0)

    def test_ways(self):
        even = Rule(["a", "b"], [["a", "b"], ["-a", "-b"]])
        self.assertEqual(rows(even, ["x", "y"]).clauses()[:5],
                         [("a", "-x"), ("b", "-x"), ("-a", "-y"), ("-b", "-y"), ("-a", "x")])
        self.assertEqual(direct(Rule(["a"], [["a"]]) | Rule(["b"], [["b"]])).clauses(), [("a", "b")])
        other = whole(Rule(["b", "c"], [["b", "-c"], ["-b", "c"]]))
        self.assertEqual(follow(whole(even) + other, ["c"]), ["-a", "-b"])


class Interface(unittest.TestCase):

    def parameters(self, kind, name):
        return [str(told) for told in inspect.signature(vars(kind)[name]).parameters.values()][1:]

    def check_functions(self, module, functions):
        for name, told in functions.items():
            function = vars(module)[name]
            self.assertEqual(function.__module__, module.__name__)
            self.assertEqual([str(parameter) for parameter in inspect.signature(function).parameters.values()], told)

    def test_functions(self):
        self.check_functions(ways, {"direct": ["rule"], "whole": ["rule"], "rows": ["rule", "helpers"]})
        self.check_functions(following, {"follow": ["code", "setting"], "drawings": ["code", "setting"],
                                         "are_drawings": ["code", "setting", "thing"]})
        level = "level='forced'"
        self.check_functions(seeing, {"blind": ["code", level], "sees": ["code", level], "blind_count": ["code", level]})
        self.check_functions(papers, {"paper": ["code", level], "is_paper": ["code", "thing", level]})
        self.check_functions(orders, {"outdone": ["one", "other"], "needless": ["code"], "trimmed": ["code"]})
        self.check_functions(mending, {"fewest": ["code", level], "needed": ["rule"], "least_code": ["rule"],
                                       "grown": ["code"]})

    def test_functions_of_building_leading_and_texts(self):
        self.check_functions(building, {
            "put_out": ["code", "name"], "bare": ["code"], "sharpens": ["code", "name"], "hidden": ["code", "name"],
            "set_to": ["code", "literal"], "either": ["one", "other"], "lifted": ["code"]})
        self.check_functions(leading, {"solved": ["code", "order"]})
        self.check_functions(code_texts, {"write_code": ["code"], "read_code": ["text"]})

    def check_class(self, kind, module, methods, double):
        self.assertEqual(kind.__module__, module)
        for name, told in methods.items():
            self.assertEqual(self.parameters(kind, name), told)
        for name in double.split():
            self.assertIn("__" + name + "__", vars(kind))

    def test_web_and_led(self):
        self.check_class(Web, "lastopen.webs", {"__init__": ["codes"], "codes": [], "code": [], "forced": ["setting"],
                                                "blind": [], "sees": []}, "len eq")
        self.check_class(Led, "lastopen.leading", {
            "__init__": ["code"], "put": ["literal"], "undo": [], "choices": [], "is_dead": [], "drawn": [],
            "why": ["literal"], "blame": [], "copy": []}, "len contains iadd eq")

    def test_rule_and_code(self):
        self.check_class(Rule, "lastopen.rules", {
            "__init__": ["signs", "settings"], "signs": [], "settings": [], "forced": ["setting"], "shortest": [],
            "turned": ["name"]}, "len contains and or invert sub le lt eq")
        self.check_class(Code, "lastopen.codes", {
            "__init__": ["signs", "clauses", "helpers=()"], "signs": [], "helpers": [], "clauses": [], "rule": [],
            "total": [], "more": ["clauses"], "less": ["index"]}, "len contains add eq")


if __name__ == "__main__":
    unittest.main()
