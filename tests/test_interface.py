"""The document's interface: its examples word for word, its names and arguments, and where they are defined."""

import ast
import os
import unittest

EXAMPLES = '''
>>> from poolrows.nets import joined, mirrored, renamed, turned
>>> on = (1, ((((1,), (0,)), ((0,), (1,))),))
>>> [mirrored(on), turned(on), renamed((2, ((((1, 0), (0, 1)),),)), (1, 0)), joined((1, ((((1,), (2,)),),)), (2, ()))]
[(1, ((((0,), (1,)), ((1,), (0,))),)), (1, ((((0,), (1,)), ((1,), (0,))),)), (2, ((((0, 1), (1, 0)),),)), (2, \
((((1, 0), (2, 0)),),))]
>>> from poolrows.nettext import read_net, write_net
>>> [write_net((1, ((((1,), (0,)), ((0,), (1,))),))), read_net(" 2: 10>01  11>22|00>00 "), write_net((2, ()))]
['1: 1>0|0>1', (2, ((((1, 0), (0, 1)),), (((1, 1), (2, 2)), ((0, 0), (0, 0))))), '2:']
>>> from poolrows.nettext import read_net
>>> read_net("1: 1>1")
raises InvalidText(place=3)
>>> from poolrows.rows import after, all_come, deeds, done, goes_on, longest
>>> from poolrows.nettext import read_net
>>> on, row = read_net("1: 1>0|0>1"), ((1,), (0,), (0,))
>>> [deeds(on, row), done(on, row, (0, (0, 2))), after(on, ((2,), (0,), (0,)), ((0, (0, 1)), (0, (1, 2)))), \
all_come(on, ((1,), (0,))), longest(on, ((2,), (0,), (0,))), goes_on(read_net("2: 01>10 10>01"), ((1, 0),))]
[((0, (0, 1)), (0, (0, 2))), ((0,), (0,), (1,)), ((1,), (0,), (1,)), [((0,), (1,)), ((1,), (0,))], 4, True]
>>> from poolrows.rows import longest
>>> longest((1, ((((1,), (2,)),),)), ((1,),))
raises TooMany(most=1500)
>>> from poolrows.climbs import bounded, ends, falling, holding, shows_falling, shows_holding
>>> from poolrows.nettext import read_net
>>> on, grow = read_net("1: 1>0|0>1"), read_net("1: 1>2")
>>> [ends(on), bounded(on), shows_falling(on, (("early", (1,)),)), shows_falling(on, (("late", (1,)),)), \
shows_holding(on, (("even", (1,)),)), ends(grow), bounded(grow), falling(grow), holding(grow), \
ends(read_net("1: 0>2|1>0"))]
[True, True, True, False, True, False, False, None, None, True]
>>> from poolrows.knots import knot, rising, shows_knot, shows_rising
>>> from poolrows.nettext import read_net
>>> on, grow, turn = read_net("1: 1>0|0>1"), read_net("1: 1>2"), read_net("2: 01>10 10>01")
>>> [knot(on), shows_rising(grow, ((1,), (((1,),),), (((1,),),))), shows_knot(turn, ((1, 1), (((1,), (1,)),), \
(((1,), (1,)),))), rising(turn)]
[None, True, True, None]
>>> from poolrows.sums import can_fill, kept_at_places, kept_sums
>>> from poolrows.nettext import read_net
>>> pair = read_net("3: 110>001 200>010|000>001")
>>> [kept_sums(pair), kept_at_places(pair), can_fill(pair, (0,)), can_fill(pair, (1,)), kept_sums(read_net("1:"))]
[((2, 1, 3),), (), (0, 1, 2), (1,), ((1,),)]
>>> from poolrows.lengths import run_degree, run_ladder, run_levels, shows_run_levels, shows_token_ladder, \
token_degree
>>> from poolrows.nettext import read_net
>>> on, drip, back = read_net("1: 1>0|0>1"), read_net("2: 10>00|00>11"), read_net("1: 0>2|1>0")
>>> [run_degree(on), token_degree(on), shows_run_levels(on, (("early", (1,)),)), run_degree(drip), \
token_degree(drip), shows_token_ladder(drip, ((1,),)), run_degree(back), run_levels(back), \
run_degree(read_net("1: 1>0")), run_ladder(read_net("1: 1>0"))]
[2, 1, True, 2, 2, True, None, None, 1, ()]
'''

PLACES = {
    "nets": {"renamed": ["net", "order"], "mirrored": ["net"], "turned": ["net"], "joined": ["net", "other"]},
    "nettext": {"write_net": ["net"], "read_net": ["text"]},
    "rows": {
        "deeds": ["net", "row"], "done": ["net", "row", "deed"], "after": ["net", "row", "run"],
        "all_come": ["net", "row"], "goes_on": ["net", "row"], "longest": ["net", "row"],
    },
    "climbs": {
        "ends": ["net"], "bounded": ["net"], "falling": ["net"], "holding": ["net"],
        "shows_falling": ["net", "value"], "shows_holding": ["net", "value"],
    },
    "knots": {
        "knot": ["net"], "rising": ["net"], "shows_knot": ["net", "value"], "shows_rising": ["net", "value"],
    },
    "sums": {"kept_sums": ["net"], "kept_at_places": ["net"], "can_fill": ["net", "pools"]},
    "lengths": {
        "run_degree": ["net"], "token_degree": ["net"], "run_levels": ["net"], "token_levels": ["net"],
        "shows_run_levels": ["net", "value"], "shows_token_levels": ["net", "value"],
        "run_ladder": ["net"], "token_ladder": ["net"],
        "shows_run_ladder": ["net", "value"], "shows_token_ladder": ["net", "value"],
    },
}

PACKAGE = os.path.join(os.path.dirname(os.path.dirname(os.path.abspath(__file__))), "poolrows")


def shown(line, names):
    """Return what the line gives, in the words of the document."""
    try:
        return repr(eval(line, names))
    except ValueError as error:
        fields = ", ".join(f"{name}={worth!r}" for name, worth in vars(error).items())
        return f"raises {type(error).__name__}({fields})"


def defined(name):
    """Return the arguments of each public function that a file defines."""
    with open(os.path.join(PACKAGE, name + ".py"), encoding="utf-8") as file:
        tree = ast.parse(file.read())
    found = [part for part in tree.body if isinstance(part, ast.FunctionDef) and not part.name.startswith("_")]
    return {part.name: [argument.arg for argument in part.args.args] for part in found}


class InterfaceTest(unittest.TestCase):
    def test_examples(self):
        names = {}
        last = None
        for line in EXAMPLES.strip().splitlines():
            if not line.startswith(">>> "):
                self.assertEqual(shown(last, names), line)
            elif isinstance(ast.parse(line[4:]).body[0], ast.Expr):
                last = line[4:]
            else:
                exec(line[4:], names)

    def test_names_and_arguments(self):
        for file, functions in PLACES.items():
            self.assertEqual(defined(file), functions)


if __name__ == "__main__":
    unittest.main()
