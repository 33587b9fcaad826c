"""Whether all runs end, whether nothing grows without bound, and the levels that show it."""

import itertools
import unittest

from poolrows.climbs import bounded, ends, falling, holding, shows_falling, shows_holding
from poolrows.errors import TooMany
from poolrows.nettext import read_net, write_net
from poolrows.rows import goes_on
from tests import plain
from tests.helpers import WRONG, drawn_movers, drawn_nets, near, small_rules, unchanged

# Nets with whether they end and whether they are bounded.
NETS = [
    ("1:", True, True), ("4:", True, True),
    ("1: 1>0", True, True), ("1: 1>2", False, False), ("1: 0>1", False, False), ("1: 9>8", True, True),
    ("1: 0>9|1>0|0>0", True, True), ("1: 2>1|0>1", True, True), ("1: 1>0|0>1", True, True),
    ("1: 0>1|1>0", True, True), ("1: 0>2|1>0", True, True), ("1: 1>0|0>2", True, True), ("1: 1>0|0>9|0>9", True, True),
    ("1: 0>1|1>0 1>0|0>1", False, True), ("1: 0>1|2>0 1>0|0>1", True, True), ("1: 0>2|1>0 1>0|0>1", False, False),
    ("1: 0>1|1>0|0>1", False, False), ("1: 1>1|1>0", True, True), ("1: 1>1|1>2", False, False),
    ("1: 0>1|1>0|1>1", True, True), ("1: 0>0|1>0|0>5", True, True),
    ("2: 01>10 10>01", False, True), ("2: 10>01", True, True), ("2: 02>10 20>01", True, True),
    ("2: 01>10 10>02", False, False), ("2: 01>10 20>01", True, True), ("2: 10>01|01>10", True, True),
    ("2: 01>10|10>01 10>01|01>10", False, True), ("2: 00>01|10>00", True, True), ("2: 10>11", False, False),
    ("2: 00>01|10>00 00>10|01>00", True, True), ("2: 00>02|10>00 01>10", True, True),
    ("2: 00>02|10>00 01>00|00>10", False, False), ("2: 00>01|10>00 01>00|00>10", False, True),
    ("3: 001>100 010>001 100>010", False, True), ("3: 001>010 100>022", True, True),
    ("4: 0001>0010 0010>0100 0100>1000", True, True), ("4: 0001>0010 0010>0100 0100>1000 1000>0001", False, True),
    ("4: 0000>0001|1000>0000 0001>0000|0000>0100 0100>0000|0000>0010", True, True),
]

# Nets and levels, with whether they settle all rules and all pools.
LEVELS = [
    # Each word by its own number.
    ("1: 1>0", (("early", (1,)),), True, True), ("1: 1>0", (("even", (3,)),), True, True),
    ("1: 1>0", (("late", (10 ** 30,)),), True, True), ("1: 1>0", (), False, False),
    ("1: 1>0", (("even", (0,)),), False, False), ("1: 1>0", (("even", (-1,)),), False, False),
    ("1: 1>0|0>1", (("early", (1,)),), True, True), ("1: 1>0|0>1", (("late", (1,)),), False, False),
    ("1: 1>0|0>1", (("even", (1,)),), False, True), ("1: 1>0|0>9", (("early", (1,)),), True, True),
    ("1: 1>0|0>9", (("even", (1,)),), False, False), ("1: 0>1|1>0", (("late", (1,)),), True, True),
    ("1: 0>1|1>0", (("early", (1,)),), False, False), ("1: 0>1|2>0", (("even", (1,)),), True, True),
    ("1: 0>1|2>0", (("early", (1,)),), False, False), ("1: 1>2", (("even", (1,)),), False, False),
    ("1: 1>2", (("even", (0,)),), False, False), ("1: 1>2", (("early", (-1,)),), False, False),
    # Places that fall by 0 do not decide.
    ("1: 1>1|1>0|0>5", (("early", (1,)),), True, True), ("1: 0>5|1>0|1>1", (("late", (1,)),), True, True),
    ("1: 1>1|0>1|9>0", (("early", (1,)),), False, False), ("1: 9>0|0>1|1>1", (("late", (1,)),), False, False),
    ("1: 1>0|1>1|0>1", (("late", (1,)),), False, False), ("2: 10>01|10>00|00>10", (("early", (1, 1)),), True, True),
    ("2: 10>01|01>10", (("early", (1, 1)),), False, True), ("2: 10>01|01>10", (("early", (2, 1)),), True, True),
    ("2: 10>01|01>10", (("early", (1, 2)),), False, False), ("2: 10>01|01>10", (("late", (1, 2)),), True, True),
    # What is settled is free from then on.
    ("1: 1>0|0>1", (("even", (1,)), ("late", (-1,))), True, True),
    ("1: 1>0|0>1", (("late", (-1,)), ("even", (1,))), False, False),
    ("1: 1>0|0>1", (("even", (1,)), ("early", (-1,))), False, False),
    ("1: 1>0|0>1", (("early", (1,)), ("late", (1,))), True, True),
    ("1: 1>0|0>1", (("even", (0,)), ("early", (1,)), ("early", (-1,))), True, True),
    ("2: 10>01", (("even", (1, 0)),), True, False), ("2: 10>01", (("even", (1, 0)), ("even", (-5, 1))), True, True),
    ("2: 10>01", (("even", (1, 0)), ("even", (0, -1))), False, False),
    ("2: 10>01", (("even", (1, 0)), ("even", (0, 0))), True, False), ("2: 10>01", (("even", (2, 1)),), True, True),
    ("2: 10>01", (("even", (0, 1)),), False, False), ("2: 10>01", (("even", (1, 1)),), False, True),
    ("2: 01>00 10>09", (("even", (1, 0)), ("even", (0, 1))), True, True),
    ("2: 01>00 10>09", (("even", (0, 1)), ("even", (1, 0))), False, False),
    ("2: 01>00 10>09", (("even", (1, 1)),), False, False), ("2: 01>00 10>09", (("even", (9, 1)),), False, True),
    ("2: 01>00 10>09", (("even", (10, 1)),), True, True),
    ("2: 01>00|00>01 10>00|00>11", (("early", (1, 0)), ("early", (0, 1))), True, True),
    ("2: 01>00|00>01 10>00|00>11", (("early", (0, 1)), ("early", (1, 0))), False, False),
    ("2: 01>00|00>01 10>00|00>11", (("even", (1, 0)), ("late", (-1, 0)), ("early", (0, 1))), True, True),
    ("2: 01>10 10>01", (("even", (1, 1)),), False, True), ("2: 01>10 10>01", (("even", (1, 2)),), False, False),
    # Without rules.
    ("1:", (), True, False), ("1:", (("late", (1,)),), True, True), ("1:", (("late", (0,)),), True, False),
    ("1:", (("late", (-1,)),), False, False), ("2:", (("early", (1, 0)), ("late", (-1, 1))), True, True),
    ("2:", (("early", (1, 0)), ("late", (1, 0))), True, False),
]

# What is no levels, whatever the net of one pool.
NO_LEVELS = [
    [("even", (1,))], (["even", (1,)],), (("even", [1]),), (("even", 1),), ("even", (1,)), (("even",),),
    (("even", (1,), ()),), (("even", (1, 1)),), (("even", ()),), (("even", (True,)),), (("even", ("1",)),),
    (("even", (None,)),), (("even", ((1,),)),), (("Even", (1,)),), (("", (1,)),), (("evenly", (1,)),),
    ((0, (1,)),), ((None, (1,)),), ((("even",), (1,)),), ((["even"], (1,)),), (({}, (1,)),), (((1,), "even"),),
    (("even", (1,)), None), (("even", (1,)), ()), (("even", (1,)), "even"), {("even", (1,)): 1}, (("even", {0: 1}),),
    (("even", "1"),), (((("even",), (1,)),),),
]

JUDGES = [(shows_falling, falling, plain.is_falling), (shows_holding, holding, plain.is_holding)]


def on_small_rows(net, places, tokens):
    """Return whether all runs end and whether nothing grows on rows of up to so many places, with so many tokens."""
    all_end, none_grows = True, True
    for many in range(1, places + 1):
        for row in itertools.product(itertools.product(range(tokens + 1), repeat=net[0]), repeat=many):
            if sum(map(sum, row)) <= tokens and none_grows:
                try:
                    all_end = not goes_on(net, row) and all_end
                except TooMany:
                    all_end, none_grows = False, False
    return all_end, none_grows


class EndsTest(unittest.TestCase):
    def test_nets(self):
        for text, all_end, none_grows in NETS:
            net = read_net(text)
            self.assertEqual((ends(net), bounded(net)), (all_end, none_grows), text)
            self.assertEqual((falling(net) is None, holding(net) is None), (not all_end, not none_grows), text)
            self.assertIs(type(ends(net)), bool)
            self.assertIs(type(bounded(net)), bool)

    def test_runs_of_one_pool(self):
        for many in range(3):
            for rules in itertools.combinations(small_rules(1, 1, (1, 2)), many):
                net = (1, rules)
                self.assertEqual((ends(net), bounded(net)), on_small_rows(net, 3, 3), write_net(net))

    def test_runs_of_three_places(self):
        rules = small_rules(1, 1, (3,))
        for k, first in enumerate(rules):
            net = (1, tuple(sorted({first, rules[(k * 7 + 11) % len(rules)]})))
            self.assertEqual((ends(net), bounded(net)), on_small_rows(net, 4, 3), write_net(net))

    def test_runs_of_two_pools(self):
        for many in range(3):
            for rules in itertools.combinations(small_rules(2, 1, (1,)), many):
                net = (2, rules)
                self.assertEqual((ends(net), bounded(net)), on_small_rows(net, 1, 4), write_net(net))

    def test_runs_of_two_pools_and_two_places(self):
        rules = small_rules(2, 1, (2,))
        for k in range(0, len(rules), 4):
            net = (2, tuple(sorted({rules[k], rules[(k * 5 + 101) % len(rules)]})))
            self.assertEqual((ends(net), bounded(net)), on_small_rows(net, 3, 2), write_net(net))


    def test_all_levels_with_small_weights(self):
        """On these nets small weights are enough."""
        for net in drawn_nets(3, 60, pools=2, rules=3) + drawn_movers(5, 60, pools=2, rules=3):
            if max([number for rule in net[1] for place in rule for moved in place for number in moved], default=0) < 3:
                left = list(plain.left_by_small_weights(net, plain.strong, 4))
                self.assertEqual(ends(net), any(not rules for rules, _ in left), write_net(net))
                self.assertEqual(bounded(net), any(not pools for _, pools in left), write_net(net))


class LevelsTest(unittest.TestCase):
    def test_what_is_found_settles(self):
        for net in drawn_nets(1, 150) + drawn_movers(1, 150) + [read_net(text) for text, _, _ in NETS]:
            for shows, finds, judge in JUDGES:
                found = finds(net)
                self.assertTrue(shows(net, found), write_net(net))
                self.assertEqual(shows(net, None), found is None, write_net(net))
                self.assertTrue(found is None or judge(net, found), write_net(net))

    def test_levels(self):
        for text, value, all_rules, all_pools in LEVELS:
            net = read_net(text)
            self.assertIs(shows_falling(net, value), all_rules, (text, value))
            self.assertIs(shows_holding(net, value), all_pools, (text, value))

    def test_no_levels(self):
        for value in NO_LEVELS:
            for text in ("1:", "1: 1>0", "1: 1>0|0>1", "1: 1>2"):
                self.assertIs(shows_falling(read_net(text), value), False, value)
                self.assertIs(shows_holding(read_net(text), value), False, value)

    def test_every_kind_of_value(self):
        for shows, finds, _ in JUDGES:
            for text in ("1: 1>0", "1: 1>2", "3: 100>001|000>010"):
                net = read_net(text)
                for value in WRONG:
                    self.assertIs(shows(net, value), value is None and finds(net) is None, (text, value))
                    self.assertTrue(unchanged(shows, net, value))

    def test_near_values(self):
        for net in drawn_nets(2, 40, pools=3, rules=4) + drawn_movers(2, 40):
            for value in near(falling(net)):
                self.assertIs(shows_falling(net, value), plain.is_falling(net, value), (write_net(net), value))
            for value in near(holding(net)):
                self.assertIs(shows_holding(net, value), plain.is_holding(net, value), (write_net(net), value))

    def test_near_to_the_listed_ones(self):
        for text, levels, _, _ in LEVELS:
            net = read_net(text)
            for value in near(levels):
                self.assertIs(shows_falling(net, value), plain.is_falling(net, value), (text, value))
                self.assertIs(shows_holding(net, value), plain.is_holding(net, value), (text, value))


if __name__ == "__main__":
    unittest.main()
