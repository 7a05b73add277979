"""Codes as texts."""

from lastopen.codes import Code
from lastopen.errors import BadLine
from lastopen.literals import is_clause, is_name, literals_of

WORDS = ("sign", "helper", "clause")


def write_code(code):
    """The text of a code: a line for each sign, each helper and each clause."""
    lines = ["sign " + name for name in code.own_signs]
    lines.extend(["helper " + name for name in code.own_helpers])
    lines.extend([" ".join(["clause", *clause]) for clause in code.rows])
    return "\n".join(lines)


def read_code(text):
    """The code of a text; raises BadLine for the first wrong line."""
    if text == "":
        return Code([], [])
    read = {word: [] for word in WORDS}
    known = {}
    allowed = WORDS
    for index, line in enumerate(text.split("\n")):
        word, *rest = line.split(" ")
        if word not in allowed:
            raise BadLine(index)
        allowed = WORDS[WORDS.index(word):]
        if word == "clause":
            if not is_clause(known, rest):
                raise BadLine(index)
            read[word].append(rest)
        else:
            if len(rest) != 1 or not is_name(rest[0]) or rest[0] in known:
                raise BadLine(index)
            for literal in literals_of(rest):
                known[literal] = True
            read[word].extend(rest)
    return Code(read["sign"], read["clause"], read["helper"])
