"""How long runs are and how many tokens come, with mild levels and ladders that show it."""

import itertools
import unittest

from poolrows.climbs import bounded, ends
from poolrows.lengths import (
    run_degree, run_ladder, run_levels, shows_run_ladder, shows_run_levels, shows_token_ladder, shows_token_levels,
    token_degree, token_ladder, token_levels,
)
from poolrows.nets import mirrored
from poolrows.nettext import read_net, write_net
from poolrows.rows import all_come, longest
from tests import plain
from tests.helpers import WRONG, drawn_movers, drawn_nets, near, small_rules, unchanged

ON = "1: 1>0|0>1"
BACK = "1: 0>2|1>0"
SWAP = "1: 0>1|1>0 1>0|0>1"
DRIP = "2: 10>00|00>11"
# A token of pool 0 drops one of pool 1 at each step; both move on.
FALLS_2 = "2: 01>00|00>01 10>00|00>11"
FALLS_3 = "3: 001>000|000>001 010>000|000>011 100>000|000>110"
FALLS_4 = "4: 0001>0000|0000>0001 0010>0000|0000>0011 0100>0000|0000>0110 1000>0000|0000>1100"
# The dropped tokens move to and fro.
DRIP_SWAP = "2: 00>01|01>00 01>00|00>01 10>00|00>11"

# Nets with their run degrees and token degrees.
DEGREES = [
    ("1:", 0, 1), ("4:", 0, 1), ("1: 1>0", 1, 1), ("1: 9>8", 1, 1), ("1: 1>2", None, None), ("1: 0>1", None, None),
    (ON, 2, 1), ("1: 0>1|1>0", 2, 1), ("1: 1>0|0>1|0>0", 2, 1), ("1: 2>1|0>1", 2, 1), ("1: 1>1|1>0|0>1", 2, 1),
    ("1: 0>1|1>0|1>1", 2, 1), ("1: 2>0|0>1", 1, 1), ("1: 0>1|2>0", 1, 1), ("1: 0>2|3>0", 1, 1),
    ("1: 2>0|0>1|0>1", 2, 1),
    ("1: 1>0|0>2|2>1", None, 1), ("1: 1>2|2>0|0>1", None, 1), (BACK, None, None), ("1: 1>0|0>2", None, None),
    (SWAP, None, 1), ("1: 0>1|1>0|0>1", None, None), (DRIP, 2, 2), ("2: 00>11|10>00", 2, 2), ("2: 10>00|00>12", 2, 2),
    (FALLS_2, 3, 2), (FALLS_3, 4, 3), (FALLS_4, 5, 4), (DRIP_SWAP, None, 2), ("2: 10>02", 1, 1), ("2: 10>09", 1, 1),
    ("2: 01>10 10>01", None, 1), ("2: 01>10 10>02", None, None), ("2: 10>01|01>10", 2, 1), ("2: 10>01|02>10", 1, 1),
    ("2: 01>10|10>01 10>01|01>10", None, 1), ("2: 01>00|00>01 10>00|00>10", 2, 1), ("2: 00>01|01>00 10>00|00>10", 2, 1),
    ("2: 00>01|01>00 10>00|00>11", 3, 2), ("3: 010>000|000>010 100>000|000>101", 2, 2),
    ("2: 00>11|10>00 10>00|00>10", None, None),
    ("3: 000>011|010>000 001>000|000>001|000>000 100>000|000>010|000>100", 4, 3),
]

# Nets and mild levels, with whether they are what run_levels and token_levels may return.
LEVELS = [
    # As few slopes as can be, not more and not less.
    (ON, (("early", (1,)),), True, False), (ON, (("even", (1,)),), False, True), (ON, (), False, False),
    (ON, (("even", (1,)), ("early", (1,))), True, False), (ON, (("even", (1,)), ("late", (-1,))), True, False),
    (ON, (("early", (1,)), ("even", (0,))), True, False), (ON, (("early", (1,)), ("early", (1,))), False, False),
    (ON, (("early", (1,)), ("late", (1,))), False, False), (ON, (("early", (0,)), ("early", (1,))), False, False),
    (ON, (("late", (1,)),), False, False), (ON, (("late", (-1,)), ("even", (1,))), False, False),
    (ON, (("even", (1,)), ("early", (-1,))), False, False), ("1: 1>0", (("even", (2,)),), True, True),
    ("1: 1>0", (("early", (1,)),), False, False), ("1: 1>0", (("even", (1,)), ("late", (0,))), False, False),
    ("1: 1>0", (("even", (0,)), ("even", (1,)), ("even", (-1,))), True, True),
    ("1: 1>0", (("even", (0,)),), False, False),
    (DRIP, (("even", (1, 0)), ("early", (1, 0)), ("even", (0, 1))), True, True),
    (DRIP, (("early", (2, 1)),), False, False), (DRIP, (("early", (2, 0)), ("even", (0, 1))), True, True),
    (DRIP, (("even", (1, 0)), ("late", (-1, 0)), ("even", (0, 1))), True, True),
    (DRIP, (("early", (1, 0)),), True, False),
    (DRIP, (("even", (1, 0)), ("late", (-2, 1))), False, False),
    (DRIP, (("even", (1, 0)), ("even", (0, 1))), False, False),
    (DRIP, (("even", (1, 0)), ("late", (-1, 0)), ("late", (0, 1))), False, False),
    (FALLS_2, (("early", (1, 0)), ("early", (0, 1))), True, False), (FALLS_2, (("early", (1, 0)),), False, False),
    (FALLS_2, (("early", (1, 0)), ("even", (0, 1))), False, True),
    (FALLS_2, (("even", (1, 0)), ("late", (-1, 0)), ("even", (0, 1)), ("early", (0, 1))), True, False),
    (FALLS_2, (("early", (0, 1)), ("early", (1, 0))), False, False), (FALLS_2, (("early", (1, 1)),), False, False),
    (FALLS_2, (("early", (1, 0)), ("late", (0, 0)), ("early", (0, 1))), False, False),
    # All sums of falls, from the first place on or from the last.
    ("1: 2>0|0>1|0>1", (("early", (1,)),), True, False), ("1: 1>0|0>2|2>1", (("early", (1,)),), False, False),
    ("1: 1>1|1>0|0>1", (("early", (1,)),), True, False), ("1: 1>1|0>1|1>0", (("early", (1,)),), False, False),
    ("1: 0>1|1>0|1>1", (("late", (1,)),), True, False), ("1: 1>0|0>1|1>1", (("late", (1,)),), False, False),
    ("1: 0>2|1>0|1>0", (("late", (1,)),), True, False), ("1: 0>1|2>0|0>1", (("late", (1,)),), False, False),
    ("1: 2>0|0>1|0>1", (("even", (1,)), ("late", (-1,))), True, False),
    ("1: 1>0|0>0|0>1", (("early", (1,)),), True, False),
    ("1: 0>1|2>0|0>1", (("even", (1,)), ("early", (-1,))), False, False), ("1: 3>0|0>2", (("even", (1,)),), True, True),
    ("2: 10>01|01>10", (("early", (1, 0)),), True, False), ("2: 10>01|01>10", (("early", (0, 1)),), False, False),
    # Without rules, and without a degree.
    ("1:", (), True, False), ("1:", (("even", (1,)),), True, True), ("1:", (("early", (1,)),), False, False),
    ("1:", (("even", (0,)),), True, False), ("1:", (("even", (-1,)),), False, False),
    ("2:", (("even", (1, 0)), ("even", (-1, 1))), True, True),
    ("2:", (("even", (1, 0)), ("even", (1, 0))), True, False),
    (BACK, (("late", (1,)),), False, False), (BACK, (), False, False), (SWAP, (("even", (1,)),), False, True),
    (SWAP, (("even", (1,)), ("early", (1,))), False, False), ("1: 1>2", (("even", (0,)),), False, False),
]

NO_LEVELS = [
    [("even", (1,))], (["even", (1,)],), (("even", [1]),), ("even", (1,)), (("even", (1, 1)),), (("even", (True,)),),
    (("Even", (1,)),), ((None, (1,)),), (("even", (1,)), None), (("even", (1,)), ("even",)), (("even", ("1",)),),
    (("even", (1,), 0),), (("even", 1),), ((["even"], (1,)),), (({}, (1,)),), {"even": (1,)}, (("even", ()),),
]

TURN = "2: 01>10 10>01"
THREE = "3: 001>000|000>001 010>000|000>010 100>000|000>110"

# Rules with a place at which nothing changes.
IDLE_0 = "2: 01>00|00>00|00>01 10>00|00>11"
IDLE_1 = "2: 01>00|00>01 10>00|00>11|00>00"
# What moves turns into a token of pool 2, which turns back where it is.
TURNING = "3: 001>010 010>000|000>001 100>000|000>110"
# What drops last may be taken away.
EATEN = "3: 001>000 010>000|000>011 100>000|000>110"

# Nets and ladders, with whether they are what run_ladder and token_ladder may return.
LADDERS = [
    ("1:", (), True, True), ("1:", ((),), False, False), ("4:", (), True, True), ("1: 1>0", (), True, True),
    ("1: 1>0", ((1,),), False, False), (ON, ((1,),), True, False), (ON, ((7,),), True, False), (ON, (), False, True),
    (ON, ((1,), ((1, 2),), (1,)), False, False), (ON, ((0,),), False, False), (ON, ((-1,),), False, False),
    (ON, ((True,),), False, False), (ON, ((1, 1),), False, False), (ON, ((),), False, False),
    (ON, [(1,)], False, False),
    (ON, ([1],), False, False), (ON, ((1,), (1,)), False, False), (ON, ((1,), ((1, 1),)), False, False),
    (ON, ("1",), False, False), (ON, (1,), False, False), (DRIP, ((1,),), True, True), (DRIP, (), False, False),
    (DRIP, ((1,), ((1, 1),), (1,)), False, False), (TURN, (), False, True), (TURN, ((1, 1),), False, False),
    (BACK, (), False, False), (BACK, ((1,),), False, False), ("1: 1>2", ((1,),), False, False),
    (DRIP_SWAP, ((1, 1, 1),), False, True), (DRIP_SWAP, ((1, 1, 0),), False, False), (DRIP_SWAP, (), False, False),
    (DRIP_SWAP, ((0, 0, 2),), False, True), (DRIP_SWAP, ((1, 0, 2),), False, True),
    # Two lots.
    (FALLS_2, ((1, 1), ((1, 2), (0, 0)), (1, 0)), True, False),
    (FALLS_2, ((1, 1), ((1, 2), (1, 1)), (1, 0)), True, False),
    (FALLS_2, ((3, 2), ((2, 9), (5, 5)), (4, 0)), True, False), (FALLS_2, ((1, 1),), False, True),
    (FALLS_2, ((0, 1),), False, True), (FALLS_2, ((1, 0),), False, False), (FALLS_2, (), False, False),
    (FALLS_2, ((1, 1), ((1, 2), (0, 0)), (1, 0), ((1, 2), (0, 0)), (1, 0)), False, False),
    (FALLS_2, [(1, 1), ((1, 2), (0, 0)), (1, 0)], False, False), (FALLS_2, ((1, 1), ((1, 2), (0, 0))), False, False),
    (FALLS_2, ((1, 1), [(1, 2), (0, 0)], (1, 0)), False, False),
    (FALLS_2, ((1, 1), ([1, 2], (0, 0)), (1, 0)), False, False),
    (FALLS_2, ((1, 1), ((True, 2), (0, 0)), (1, 0)), False, False),
    (FALLS_2, ((1, 1), ((1, 2),), (1, 0)), False, False),
    (FALLS_2, ((1, 1), ((1, 2), (0,)), (1, 0)), False, False), (FALLS_2, ((1, 1), None, (1, 0)), False, False),
    (FALLS_2, ((1, 1), ((1, 2), (-1, -1)), (1, 0)), False, False),
    (FALLS_2, (None, ((1, 2), (0, 0)), (1, 0)), False, False),
    (FALLS_2, ((1, 1), ((1, 2), (0, 0)), None), False, False), (FALLS_2, ((1, 1), (1, 0), (1, 0)), False, False),
    (FALLS_2, ((1, 1), ((1, 2), (0, 0)), (0, 0)), False, False),
    (FALLS_2, ((0, 0), ((1, 2), (0, 0)), (1, 0)), False, False),
    # The spread's numbers: above 0 and rising where the next lot has a number, never falling, raising only gains.
    (FALLS_2, ((1, 1), ((1, 1), (0, 0)), (1, 0)), False, False),
    (FALLS_2, ((1, 1), ((0, 1), (0, 0)), (1, 0)), False, False),
    (FALLS_2, ((1, 1), ((0, 0), (0, 0)), (1, 0)), False, False),
    (FALLS_2, ((1, 1), ((2, 1), (1, 1)), (1, 0)), False, False),
    (FALLS_2, ((1, 1), ((1, 2), (1, 2)), (1, 0)), False, False),
    (FALLS_2, ((1, 1), ((1, 2), (2, 1)), (1, 0)), False, False),
    (FALLS_2, ((1, 1), ((1, 2), (1, 2)), (1, 1)), False, False),
    (FALLS_2, ((1, 1), ((1, 2), (1, 1)), (1, 1)), False, False),
    (FALLS_2, ((1, 1), ((1, 2), (0, 0)), (0, 1)), False, False),
    (FALLS_2, ((1, 0), ((1, 2), (0, 0)), (1, 0)), False, False),
    (FALLS_2, ((0, 1), ((1, 2), (0, 0)), (1, 0)), False, False),
    (FALLS_2, ((0, 1), ((0, 0), (1, 1)), (1, 0)), False, False),
    (FALLS_2, ((1, 1), ((1, 2), (0, 0)), (1, 0), ()), False, False),
    # A further rule that is in no lot, or in one of them.
    (THREE, ((0, 1, 1), ((0, 0), (1, 2), (0, 0)), (0, 1, 0)), True, False),
    (THREE, ((1, 1, 1), ((3, 3), (1, 2), (0, 0)), (0, 1, 0)), True, False),
    (THREE, ((0, 1, 1), ((3, 3), (1, 2), (0, 0)), (0, 1, 0)), False, False),
    (THREE, ((1, 1, 1), ((1, 2), (1, 2), (0, 0)), (1, 1, 0)), False, False),
    (THREE, ((1, 1, 1), ((0, 0), (1, 2), (0, 0)), (1, 1, 0)), False, False),
    (THREE, ((0, 1, 1), ((0, 0), (1, 2), (0, 0)), (1, 1, 0)), False, False),
    # Numbers that fall where they matter to no pool, and ones that do not rise from each place to the next.
    (IDLE_1, ((1, 1), ((1, 2), (1, 1, 1)), (1, 0)), True, False),
    (IDLE_1, ((1, 1), ((1, 2), (0, 0, 5)), (1, 0)), True, False),
    (IDLE_1, ((1, 1), ((1, 2), (1, 1, 0)), (1, 0)), False, False),
    (IDLE_0, ((1, 1), ((1, 2, 3), (1, 1)), (1, 0)), True, False),
    (IDLE_0, ((1, 1), ((1, 1, 2), (1, 1)), (1, 0)), False, False),
    (IDLE_0, ((1, 1), ((1, 2, 2), (1, 1)), (1, 0)), False, False),
    (IDLE_0, ((1, 1), ((1, 3, 2), (1, 1)), (1, 0)), False, False),
    # A rule of one place in both lots.
    (TURNING, ((1, 1, 1), ((2,), (1, 2), (0, 0)), (1, 1, 0)), True, False),
    (TURNING, ((1, 1, 1), ((1,), (1, 2), (0, 0)), (1, 1, 0)), False, False),
    (TURNING, ((1, 1, 1), ((0,), (0, 0), (0, 0)), (1, 1, 0)), False, False),
    # The next lot raises only pools that the lot ahead raises.
    (EATEN, ((0, 1, 1), ((0,), (1, 2), (0, 0)), (0, 1, 0)), True, True),
    (EATEN, ((1, 2, 3), ((2,), (1, 2), (0, 0)), (0, 1, 0)), True, True),
    (EATEN, ((1, 1, 1), ((2,), (1, 2), (0, 0)), (0, 1, 0)), False, False),
    (EATEN, ((1, 1, 1), ((2,), (1, 2), (0, 0)), (1, 1, 0)), True, False),
    # Three lots, and the token ladder of two.
    (FALLS_3, ((0, 1, 1), ((0, 0), (1, 2), (0, 0)), (0, 1, 0)), False, True),
    (FALLS_3, ((1, 1, 1), ((1, 2), (1, 2), (0, 0)), (1, 1, 0), ((1, 2), (0, 0), (0, 0)), (1, 0, 0)), True, False),
    (FALLS_3, ((1, 1, 1), ((1, 2), (1, 2), (0, 0)), (1, 1, 0), ((1, 2), (0, 0), (1, 1)), (1, 0, 0)), False, False),
    (FALLS_3, ((1, 1, 1), ((1, 2), (0, 0), (0, 0)), (1, 0, 0), ((1, 2), (0, 0), (0, 0)), (1, 0, 0)), False, False),
    (FALLS_3, ((1, 1, 1), ((1, 2), (1, 1), (0, 0)), (1, 0, 0)), False, False),
]

LEVEL_JUDGES = [(shows_run_levels, run_levels), (shows_token_levels, token_levels)]
LADDER_JUDGES = [(shows_run_ladder, run_ladder), (shows_token_ladder, token_ladder)]


def slopes_asked(degree):
    """Return how many slopes, and lots, belong to a degree."""
    return max(0, degree - 1)


def may_be_levels(net, value, degree, judge):
    """Return whether the value is mild levels with as many slopes as the degree asks, by the plain judge."""
    return degree is not None and judge(net, value, plain.mild) and plain.slopes(value) == slopes_asked(degree)


def may_be_ladder(net, value, degree, gaining):
    """Return whether the value is a ladder with as many lots as the degree asks, by the plain judge."""
    if degree is None or not plain.is_ladder(net, value) or plain.lots(value) != slopes_asked(degree):
        return False
    return not gaining or value == () or plain.gains(net, value[-1]) != set()


def most_on_rows(net, many):
    """Return the longest run's deeds and the most tokens from fillings with so many tokens of so many places."""
    places = itertools.product(range(many + 1), repeat=net[0])
    rows = [row for row in itertools.product(places, repeat=many) if sum(map(sum, row)) == many]
    tokens = [sum(map(sum, filling)) for row in rows for filling in all_come(net, row)]
    return max(longest(net, row) for row in rows), max(tokens)


class DegreesTest(unittest.TestCase):
    def test_nets(self):
        for text, runs, tokens in DEGREES:
            net = read_net(text)
            self.assertEqual((run_degree(net), token_degree(net)), (runs, tokens), text)
            self.assertEqual((run_degree(mirrored(net)), token_degree(mirrored(net))), (runs, tokens), text)

    def test_found_levels_and_ladders(self):
        nets = drawn_nets(11, 150) + drawn_movers(11, 250) + [read_net(text) for text, _, _ in DEGREES]
        for net in nets:
            runs, tokens = run_degree(net), token_degree(net)
            levels, ladder = run_levels(net), run_ladder(net)
            self.assertEqual((levels is None, ladder is None), (runs is None, runs is None), write_net(net))
            if runs is not None:
                self.assertTrue(may_be_levels(net, levels, runs, plain.is_falling), write_net(net))
                self.assertTrue(may_be_ladder(net, ladder, runs, False), write_net(net))
                self.assertTrue(ends(net), write_net(net))
                self.assertEqual(runs == 0, net[1] == (), write_net(net))
            levels, ladder = token_levels(net), token_ladder(net)
            self.assertEqual((levels is None, ladder is None), (tokens is None, tokens is None), write_net(net))
            if tokens is not None:
                self.assertTrue(may_be_levels(net, levels, tokens, plain.is_holding), write_net(net))
                self.assertTrue(may_be_ladder(net, ladder, tokens, True), write_net(net))
                self.assertTrue(bounded(net), write_net(net))
                self.assertGreater(tokens, 0, write_net(net))
            for shows, finds in LEVEL_JUDGES + LADDER_JUDGES:
                self.assertIs(shows(net, finds(net)), True, write_net(net))
                self.assertIs(shows(net, None), finds(net) is None, write_net(net))

    def test_all_levels_with_small_weights(self):
        """On these nets small weights are enough: no words in any order settle with fewer slopes."""
        for net in drawn_nets(14, 60, pools=2, rules=3) + drawn_movers(14, 60, pools=2, rules=3):
            if max([number for rule in net[1] for place in rule for moved in place for number in moved], default=0) < 3:
                least = plain.left_by_small_weights(net, plain.mild, 4)
                runs = [many + 1 for (rules, _), many in least.items() if not rules]
                tokens = [many + 1 for (_, pools), many in least.items() if not pools]
                self.assertEqual(run_degree(net), min(runs, default=None) if net[1] else 0, write_net(net))
                self.assertEqual(token_degree(net), min(tokens, default=None), write_net(net))

    def test_nets_without_rules(self):
        for many in (1, 2, 3, 4):
            net = (many, ())
            self.assertEqual((run_degree(net), token_degree(net), run_ladder(net), token_ladder(net)), (0, 1, (), ()))
            self.assertEqual(plain.slopes(run_levels(net) + token_levels(net)), 0)

    def test_growth_of_one_pool(self):
        for many in (1, 2):
            for rules in itertools.combinations(small_rules(1, 1, (1, 2)), many):
                net = (1, rules)
                if run_degree(net) is not None:
                    runs, tokens = most_on_rows(net, 4)
                    self.assertEqual((run_degree(net), token_degree(net)), (1 if runs <= 4 else 2, 1), write_net(net))
                    self.assertTrue(runs <= 4 or 12 <= runs <= 16, write_net(net))
                    self.assertEqual(tokens, 4, write_net(net))

    def test_growth_on_single_rows(self):
        for many in range(2, 7):
            steps = many - 1
            row = ((1,),) + ((0,),) * steps
            pair = ((1, 0),) + ((0, 0),) * steps
            self.assertEqual(longest(read_net(ON), row), steps)
            self.assertEqual(longest(read_net(DRIP), pair), steps)
            self.assertEqual(max(sum(map(sum, filling)) for filling in all_come(read_net(DRIP), pair)), many)
            self.assertEqual(longest(read_net(FALLS_2), pair), steps + steps * (steps - 1) // 2)
            self.assertEqual(longest(read_net(BACK), row[::-1]), 2 ** steps - 1)
            self.assertEqual(max(sum(map(sum, filling)) for filling in all_come(read_net(BACK), row[::-1])), 2 ** steps)

    def test_growth_with_as_many_tokens_as_places(self):
        for many in range(2, 6):
            self.assertEqual(most_on_rows(read_net(ON), many), (many * (many - 1), many))
            self.assertEqual(most_on_rows(read_net("1: 1>0"), many), (many, many))
        for many in (2, 3):
            self.assertEqual(most_on_rows(read_net(DRIP), many), (many * (many - 1), many * many))


class LevelsTest(unittest.TestCase):
    def test_levels(self):
        for text, value, runs, tokens in LEVELS:
            net = read_net(text)
            self.assertIs(shows_run_levels(net, value), runs, (text, value))
            self.assertIs(shows_token_levels(net, value), tokens, (text, value))

    def test_no_levels(self):
        for value in NO_LEVELS:
            for text in ("1:", "1: 1>0", ON, BACK):
                self.assertIs(shows_run_levels(read_net(text), value), False, value)
                self.assertIs(shows_token_levels(read_net(text), value), False, value)

    def test_each_slope_is_needed(self):
        for text in (ON, DRIP, FALLS_2, FALLS_3, FALLS_4):
            net = read_net(text)
            for shows, finds in LEVEL_JUDGES:
                levels = finds(net)
                for k, (word, _) in enumerate(levels):
                    if word != "even":
                        self.assertIs(shows(net, levels[:k] + levels[k + 1:]), False, (text, levels))
                        self.assertIs(shows(net, levels[:k] + levels[k:k + 1] + levels[k:]), False, (text, levels))

    def test_near_values(self):
        listed = [(read_net(text), value) for text, value, runs, tokens in LEVELS if runs or tokens]
        nets = drawn_nets(12, 12, pools=3, rules=3) + drawn_movers(12, 20, pools=3, rules=3)
        found = [(net, finds(net)) for net in nets + [read_net(FALLS_3)] for finds in (run_levels, token_levels)]
        for net, known in listed + found:
            runs, tokens = run_degree(net), token_degree(net)
            for value in near(known):
                self.assertIs(shows_run_levels(net, value), may_be_levels(net, value, runs, plain.is_falling),
                              (write_net(net), value))
                self.assertIs(shows_token_levels(net, value), may_be_levels(net, value, tokens, plain.is_holding),
                              (write_net(net), value))


class LaddersTest(unittest.TestCase):
    def test_ladders(self):
        for text, value, runs, tokens in LADDERS:
            net = read_net(text)
            self.assertIs(shows_run_ladder(net, value), runs, (text, value))
            self.assertIs(shows_token_ladder(net, value), tokens, (text, value))

    def test_near_values(self):
        listed = [(read_net(text), value) for text, value, runs, tokens in LADDERS if runs or tokens]
        nets = drawn_movers(13, 30, pools=3, rules=3) + [read_net(FALLS_3)]
        found = [(net, finds(net)) for net in nets for finds in (run_ladder, token_ladder)]
        for net, known in listed + found:
            runs, tokens = run_degree(net), token_degree(net)
            for value in near(known):
                self.assertIs(shows_run_ladder(net, value), may_be_ladder(net, value, runs, False),
                              (write_net(net), value))
                self.assertIs(shows_token_ladder(net, value), may_be_ladder(net, value, tokens, True),
                              (write_net(net), value))


class ValuesTest(unittest.TestCase):
    def test_every_kind_of_value(self):
        for shows, finds in LEVEL_JUDGES + LADDER_JUDGES:
            for text in ("1: 1>0", ON, FALLS_2, BACK):
                net = read_net(text)
                for value in WRONG + [(part, part, part) for part in WRONG]:
                    self.assertIs(shows(net, value), value is None and finds(net) is None, (text, value))
                    self.assertTrue(unchanged(shows, net, value))


if __name__ == "__main__":
    unittest.main()
