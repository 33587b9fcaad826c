"""The document's interface: its examples word for word, its names and arguments, and where they are defined."""

import ast
import os
import unittest

EXAMPLES = '''
>>> from poolrows.nets import joined, mirrored, renamed, turned
>>> on = (1, ((((1,), (0,)), ((0,), (1,))),))
>>> [mirrored(on), turned(on), renamed((2, ((((1, 0), (0, 1)),),)), (1, 0)), joined((1, ((((1,), (2,)),),)), (2, ()))]
[(1, ((((0,), (1,)), ((1,), (0,))),)), (1, ((((0,), (1,)), ((1,), (0,))),)), (2, ((((0, 1), (1, 0)),),)), \
(2, ((((1, 0), (2, 0)),),))]
>>> from poolrows.nettext import read_net, write_net
>>> [write_net((1, ((((1,), (0,)), ((0,), (1,))),))), read_net(" 2: 10>01  11>22|00>00 "), write_net((2, ()))]
['1: 1>0|0>1', (2, ((((1, 0), (0, 1)),), (((1, 1), (2, 2)), ((0, 0), (0, 0))))), '2:']
>>> from poolrows.nettext import read_net
>>> read_net("1: 1>1")
raises InvalidText(place=3)
>>> from poolrows.rows import after, all_come, deeds, done, goes_on, longest
>>> from poolrows.nettext import read_net
>>> on, row = read_net("1: 1>0|0>1"), ((1,), (0,), (0,))
>>> [deeds(on, row), done(on, row, (0, (0, 2))), after(on, ((2,), (0,), (0,)), ((0, (0, 1)), (0, (1, 2)))), \
all_come(on, ((1,), (0,))), longest(on, ((2,), (0,), (0,))), goes_on(read_net("2: 01>10 10>01"), ((1, 0),))]
[((0, (0, 1)), (0, (0, 2))), ((0,), (0,), (1,)), ((1,), (0,), (1,)), [((0,), (1,)), ((1,), (0,))], 4, True]
>>> from poolrows.rows import longest
>>> longest((1, ((((1,), (2,)),),)), ((1,),))
raises TooMany(most=1500)
'''

PLACES = {
    "nets": {"renamed": ["net", "order"], "mirrored": ["net"], "turned": ["net"], "joined": ["net", "other"]},
    "nettext": {"write_net": ["net"], "read_net": ["text"]},
    "rows": {
        "deeds": ["net", "row"], "done": ["net", "row", "deed"], "after": ["net", "row", "run"],
        "all_come": ["net", "row"], "goes_on": ["net", "row"], "longest": ["net", "row"],
    },
}

PACKAGE = os.path.join(os.path.dirname(os.path.dirname(os.path.abspath(__file__))), "poolrows")


def shown(line, names):
    """Return what the line gives, in the words of the document."""
    try:
        return repr(eval(line, names))
    except ValueError as error:
        fields = ", ".join(f"{name}={worth!r}" for name, worth in vars(error).items())
        return f"raises {type(error).__name__}({fields})"


def defined(name):
    """Return the arguments of each public function that a file defines."""
    with open(os.path.join(PACKAGE, name + ".py"), encoding="utf-8") as file:
        tree = ast.parse(file.read())
    found = [part for part in tree.body if isinstance(part, ast.FunctionDef) and not part.name.startswith("_")]
    return {part.name: [argument.arg for argument in part.args.args] for part in found}


class InterfaceTest(unittest.TestCase):
    def test_examples(self):
        names = {}
        last = None
        for line in EXAMPLES.strip().splitlines():
            if not line.startswith(">>> "):
                self.assertEqual(shown(last, names), line)
            elif line.startswith(">>> from ") or line.startswith(">>> on"):
                exec(line[4:], names)
            else:
                last = line[4:]

    def test_names_and_arguments(self):
        for file, functions in PLACES.items():
            self.assertEqual(defined(file), functions)


if __name__ == "__main__":
    unittest.main()
