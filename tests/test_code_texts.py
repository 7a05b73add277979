"""Promise 31: texts."""

import re
import unittest

from lastopen.building import either, lifted
from lastopen.code_texts import read_code, write_code
from lastopen.codes import Code
from lastopen.errors import BadLine
from lastopen.rules import Rule
from lastopen.webs import Web
from lastopen.ways import rows, whole
from tests.helping import MANY, SEVEN, SIX, seeded, shuffled, some_code, some_rule

CODE = Code(["a", "b"], [["a", "h"], ["a", "-h"], ["-a", "b"]], ["h"])
TEXT = "sign a\nsign b\nhelper h\nclause a h\nclause a -h\nclause -a b"


def plain_wrong(text):
    """The index of the first wrong line, or None."""
    if text == "":
        return None
    known, sorts = [], ["sign", "helper", "clause"]
    for index, line in enumerate(text.split("\n")):
        found = re.fullmatch("(sign|helper) ([a-z]{1,8})", line, re.ASCII)
        if found and found[1] in sorts and found[2] not in known:
            known.append(found[2])
            sorts = sorts[sorts.index(found[1]):]
        elif re.fullmatch("clause( -?[a-z]{1,8})*", line, re.ASCII):
            names = [literal.lstrip("-") for literal in line.split(" ")[1:]]
            if len(set(names)) < len(names) or not set(names) <= set(known):
                return index
            sorts = ["clause"]
        else:
            return index
    return None


class Texts(unittest.TestCase):
    """[31] Texts"""

    def same(self, code):
        text = write_code(code)
        found = read_code(text)
        self.assertIs(found.__class__, Code)
        self.assertEqual((found.signs(), found.helpers(), found.clauses()),
                         (code.signs(), code.helpers(), code.clauses()))
        self.assertEqual(write_code(found), text)
        self.assertFalse(text.endswith("\n"))

    def test_document(self):
        self.assertEqual(write_code(CODE).split("\n"),
                         ["sign a", "sign b", "helper h", "clause a h", "clause a -h", "clause -a b"])
        self.assertEqual(write_code(CODE), TEXT)

    def test_drawn_codes(self):
        rnd = seeded(1)
        for _ in range(300):
            code = some_code(rnd)
            self.same(code)
            lines = ["sign " + name for name in code.signs()] + ["helper " + name for name in code.helpers()]
            lines += [" ".join(["clause", *clause]) for clause in code.clauses()]
            self.assertEqual(write_code(code), "\n".join(lines))

    def test_codes_of_any_size(self):
        rnd = seeded(2)
        rule = some_rule(rnd, SIX)
        for code in (rows(rule, MANY[:len(rule)]), lifted(CODE), either(whole(rule), whole(~rule)), Code(MANY, [MANY]),
                     Web([whole(rule), Code(["f", "x"], [["f", "x"]])]).code()):
            self.same(code)

    def test_edges(self):
        self.assertEqual(write_code(Code([], [])), "")
        self.assertEqual(read_code(""), Code([], []))
        self.assertEqual(write_code(Code([], [[]])), "clause")
        self.assertEqual(read_code("clause"), Code([], [[]]))
        self.assertEqual(write_code(Code(["a"], [[], ["-a"]])), "sign a\nclause\nclause -a")
        self.assertEqual(read_code("helper h"), Code([], [], ["h"]))
        self.assertEqual(read_code("sign abcdefgh\nclause -abcdefgh"), Code(["abcdefgh"], [["-abcdefgh"]]))

    def test_words_as_names(self):
        code = Code(["sign", "clause"], [["clause", "-helper"], ["-sign"]], ["helper"])
        self.same(code)
        self.assertEqual(write_code(code), "sign sign\nsign clause\nhelper helper\nclause clause -helper\nclause -sign")

    def test_clauses_twice_and_in_any_order(self):
        found = read_code("sign a\nsign b\nhelper h\nclause h a\nclause a h\nclause b -a\nclause\nclause\nclause -h a")
        self.assertEqual(found.clauses(), [("a", "h"), ("-a", "b"), (), ("a", "-h")])
        self.assertEqual((found.signs(), found.helpers()), (["a", "b"], ["h"]))

    def wrong(self, text, index):
        with self.assertRaises(BadLine) as caught:
            read_code(text)
        self.assertEqual(caught.exception.index, index, text)
        self.assertEqual(plain_wrong(text), index)

    def test_empty_lines(self):
        self.wrong("\n", 0)
        self.wrong(TEXT + "\n", 6)
        self.wrong("\n" + TEXT, 0)
        self.wrong(TEXT.replace("\nhelper", "\n\nhelper"), 2)
        self.wrong("clause\n", 1)
        self.wrong("sign a\n\n", 1)

    def test_lines_without_this_form(self):
        for line in (" ", "sign", "helper", "sign ", "sign  a", " sign a", "sign a ", "sign a b", "sign A", "sign a1",
                     "sign -a", "sign abcdefghi", "Sign a", "signs a", "signa", "sign\ta", "sign a\r", "clause ",
                     "clause  x", "clause x ", " clause", "clausex", "clause\tx", "clauses x", "name a", "# a", "x",
                     "clause --x", "clause -", "clause X", "clause x\r", "clause - x", "sign \u00e4", "sign a\x0b",
                     "sign a\u2028", "clause x\x0csign b", "helper", "helper h k", "helper -h", "-", "0"):
            self.wrong(line, 0)
            self.wrong("sign x\n" + line, 1)
            self.wrong("sign x\nhelper y\nclause x y\nclause\n" + line + "\n", 4)

    def test_names_again(self):
        self.wrong("sign a\nsign a", 1)
        self.wrong("sign a\nsign b\nhelper c\nhelper a\nclause a", 3)
        self.wrong("helper a\nhelper b\nhelper b", 2)
        self.wrong("sign a\nhelper a", 1)

    def test_literals_that_are_wrong(self):
        self.wrong("clause a", 0)
        self.wrong("sign a\nclause -b\nclause b a", 1)
        self.wrong("sign a\nclause a\nclause a a", 2)
        self.wrong("sign a\nclause -a a", 1)
        self.wrong("sign a\nsign b\nclause a b -a", 2)
        self.wrong("sign a\nhelper h\nclause a h\nclause a h k", 3)

    def test_the_order_of_sorts(self):
        self.wrong("helper h\nsign a", 1)
        self.wrong("clause\nsign a", 1)
        self.wrong("clause\nhelper a", 1)
        self.wrong("sign a\nhelper h\nclause a\nhelper k\nsign b", 3)
        self.wrong("sign a\nhelper h\nsign b\nclause a b", 2)
        # a clause has no name of a line behind it
        self.wrong("clause a\nsign a", 0)

    def test_the_first_wrong_line(self):
        self.wrong("sign a\nsign a\nx\nsign a", 1)
        self.wrong("x\nsign a\nsign a", 0)
        self.wrong("sign a\nclause b\nsign c\n", 1)

    def test_changed_texts(self):
        rnd = seeded(3)
        met = [0, 0]
        for _ in range(1500):
            lines = write_code(some_code(rnd, 3, 2, 4)).split("\n")
            for _ in range(rnd.randint(1, 2)):
                kind = rnd.randrange(5)
                at = rnd.randrange(len(lines) + 1)
                if kind == 0:
                    lines.insert(at, rnd.choice(["sign a", "helper b", "clause", "clause a", "clause a -b", "", "sign"]))
                elif kind == 1 and lines:
                    del lines[at:at + 1]
                elif kind == 2:
                    lines = shuffled(rnd, lines)
                elif kind == 3 and at < len(lines) and lines[at]:
                    spot = rnd.randrange(len(lines[at]))
                    lines[at] = lines[at][:spot] + rnd.choice(["", "a", " ", "-", "b c"]) + lines[at][spot + 1:]
                elif kind == 4 and at < len(lines):
                    lines[at] = " ".join(shuffled(rnd, lines[at].split(" ")))
            text = "\n".join(lines)
            index = plain_wrong(text)
            met[index is None] += 1
            if index is None:
                code = read_code(text)
                self.assertEqual(code.signs(), [line[5:] for line in lines if line.startswith("sign ")])
                self.assertEqual(code.helpers(), [line[7:] for line in lines if line.startswith("helper ")])
                told = [set(line.split(" ")[1:]) for line in lines if line.startswith("clause")]
                self.assertEqual([set(clause) for clause in code.clauses()],
                                 [clause for at, clause in enumerate(told) if clause not in told[:at]])
            else:
                self.wrong(text, index)
        self.assertTrue(min(met) > 300)

    def test_long_texts(self):
        text = "\n".join(["sign " + name for name in MANY] + ["clause " + " ".join(MANY[k:k + 8]) for k in range(57)])
        self.assertEqual(write_code(read_code(text)), text)
        self.wrong(text + "\nsign a", 64 + 57)

    def test_by_name(self):
        self.assertEqual(write_code(code=CODE), TEXT)
        self.assertEqual(read_code(text=TEXT), CODE)

    def test_rules_stay(self):
        rule = Rule(SEVEN[:3], [SEVEN[:3]])
        self.assertEqual(read_code(write_code(whole(rule))).rule(), rule)


if __name__ == "__main__":
    unittest.main()
