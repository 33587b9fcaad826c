"""Nets: what is one (as each function that takes a net judges it), and the nets made of others."""

import itertools
import unittest

from poolrows.climbs import bounded, ends, falling, holding, shows_falling, shows_holding
from poolrows.knots import knot, rising, shows_knot, shows_rising
from poolrows.lengths import (
    run_degree, run_ladder, run_levels, shows_run_ladder, shows_run_levels, shows_token_ladder, shows_token_levels,
    token_degree, token_ladder, token_levels,
)
from poolrows.nets import joined, mirrored, renamed, turned
from poolrows.nettext import read_net, write_net
from poolrows.rows import after, all_come, deeds, done, goes_on, longest
from poolrows.sums import can_fill, kept_at_places, kept_sums
from tests.helpers import BAD_ORDER, WRONG, bad_net, raised, too_many, unchanged

# Each function that takes a net, with wrong values for all further arguments: the net's error comes first.
TAKERS = [
    (renamed, [None]), (mirrored, []), (turned, []), (joined, [None]), (write_net, []),
    (deeds, [None]), (done, [None, None]), (after, [None, None]),
    (all_come, [None]), (goes_on, [None]), (longest, [None]),
    (ends, []), (bounded, []), (falling, []), (holding, []), (shows_falling, [0]), (shows_holding, [0]),
    (shows_falling, [None]), (shows_holding, [None]),
    (knot, []), (rising, []), (shows_knot, [0]), (shows_rising, [0]), (shows_knot, [None]), (shows_rising, [None]),
    (kept_sums, []), (kept_at_places, []), (can_fill, [None]),
    (run_degree, []), (token_degree, []), (run_levels, []), (token_levels, []), (run_ladder, []), (token_ladder, []),
    (shows_run_levels, [None]), (shows_token_levels, [None]), (shows_run_ladder, [None]), (shows_token_ladder, [None]),
    (shows_run_levels, [0]), (shows_token_levels, [0]), (shows_run_ladder, [()]), (shows_token_ladder, [()]),
]

EAT = (((1,), (0,)),)
GROW = (((1,), (2,)),)
MOVE = (((1,), (0,)), ((0,), (1,)))
EIGHT = tuple((((0,), (put,)),) for put in range(1, 9))
NINE = EIGHT + ((((0,), (9,)),),)

NO_NETS = [
    (1, ()) + (1,), (1,), [1, ()], [1, (EAT,)], {1: ()}, (0, ()), (5, ()), (-1, ()), (True, ()), (False, ()),
    ("1", ()), (None, ()), ((1,), ()), (1, []), (1, [EAT]), (1, {}), (1, None), (1, ""), (1, EAT[0]) + (1,),
    (1, 0), (1, NINE), (1, (None,) * 9), (5, (None,)), (True, (EAT,)),
]

NO_RULES = [
    0, True, None, "", "1>0", [], {}, (), [((1,), (0,))], list(EAT), EAT * 4, EAT + (None,),
    (((1,),),), (((1,), (0,), (0,)),), ([(1,), (0,)],), (([1], (0,)),), (((1,), [0]),),
    (((), ()),), (((1, 0), (0, 1)),), (((1,), (0, 0)),), (((1,), ()),), ((1, 0),), ((None, (0,)),),
    (((-1,), (0,)),), (((1,), (-1,)),), (((10,), (0,)),), (((1,), (10,)),), (((10 ** 40,), (0,)),),
    (((True,), (0,)),), (((1,), (False,)),), (((None,), (0,)),), ((("1",), (0,)),), ((((1,),), (0,)),),
    (((1,), (1,)),), (((0,), (0,)),), (((1,), (1,)), ((2,), (2,))), (((1,), (1,)),) * 3,
]

RULES = [
    EAT, GROW, MOVE, EAT * 3, (((1,), (1,)), ((1,), (0,))), (((0,), (0,)), ((0,), (0,)), ((0,), (9,))),
]


class JudgingTest(unittest.TestCase):
    def check_all(self, value, error):
        for taker, further in TAKERS:
            self.assertEqual(raised(taker, value, *further), error, (taker, value))
            self.assertTrue(unchanged(taker, value, *further))

    def test_no_pair(self):
        for value in WRONG + NO_NETS:
            self.check_all(value, bad_net(None))

    def test_no_rule_alone(self):
        for value in NO_RULES:
            self.check_all((1, (value,)), bad_net(0))

    def test_no_rule_behind_others(self):
        for value in NO_RULES:
            self.check_all((1, (EAT, value)), bad_net(1))
            self.check_all((1, (EAT, GROW, value, None)), bad_net(2))

    def test_not_greater(self):
        self.check_all((1, (EAT, EAT)), bad_net(1))
        self.check_all((1, (GROW, EAT)), bad_net(1))
        self.check_all((1, (EAT, GROW, MOVE)), bad_net(2))
        self.check_all((1, (EAT, EAT, None)), bad_net(1))
        self.check_all((1, EIGHT[:7] + EIGHT[6:7]), bad_net(7))

    def test_wrong_numbers_of_pools_in_a_rule(self):
        for many in (1, 2, 3, 4):
            for other in (0, 1, 2, 3, 4, 5):
                rule = (((1,) * other, (2,) * other),)
                expected = None if many == other else bad_net(0)
                self.assertEqual(raised(mirrored, (many, (rule,))), expected)

    def test_nets(self):
        for many in (1, 2, 3, 4):
            self.assertEqual(mirrored((many, ())), (many, ()))
        for rule in RULES:
            self.assertEqual(mirrored(mirrored((1, (rule,)))), (1, (rule,)))
        for rules in itertools.combinations(sorted(RULES), 3):
            self.assertEqual(raised(mirrored, (1, rules)), None)
        self.assertEqual(mirrored((1, EIGHT)), (1, EIGHT))
        whole = (4, ((((9, 0, 9, 0), (0, 9, 9, 0)),),))
        self.assertEqual(mirrored(whole), whole)


class RenamedTest(unittest.TestCase):
    def test_each_pool_goes_where_the_order_says(self):
        net = (3, ((((1, 2, 3), (4, 5, 6)),),))
        self.assertEqual(renamed(net, (1, 2, 0)), (3, ((((3, 1, 2), (6, 4, 5)),),)))
        self.assertEqual(renamed(net, (2, 0, 1)), (3, ((((2, 3, 1), (5, 6, 4)),),)))
        self.assertEqual(renamed(net, (0, 1, 2)), net)

    def test_rules_are_sorted_again(self):
        net = read_net("2: 01>00 10>00|00>01")
        self.assertEqual(write_net(renamed(net, (1, 0))), "2: 01>00|00>10 10>00")

    def test_one_and_four_pools(self):
        net = (1, (EAT,))
        self.assertEqual(renamed(net, (0,)), net)
        net = read_net("4: 1234>5678")
        self.assertEqual(write_net(renamed(net, (3, 2, 1, 0))), "4: 4321>8765")
        self.assertEqual(write_net(renamed(net, (1, 2, 3, 0))), "4: 4123>8567")
        self.assertEqual(renamed((4, ()), (3, 1, 0, 2)), (4, ()))

    def test_the_inverse_order_leads_back(self):
        net = read_net("4: 0012>3000|1000>0100 0100>0010 9000>0009")
        for order in itertools.permutations(range(4)):
            inverse = tuple(order.index(pool) for pool in range(4))
            self.assertEqual(renamed(renamed(net, order), inverse), net)

    def test_bad_order(self):
        net = (3, ())
        wrong = [
            (), (0,), (0, 1), (0, 1, 2, 3), (0, 1, 1), (1, 2, 3), (0, 1, 3), (-1, 0, 1), [0, 1, 2], "012",
            (0, True, 2), (False, 1, 2), (0, 1, "2"), (0, 1, None), ((0, 1, 2),), (0, 1, (2,)), (0, [1], 2),
            {0: 0, 1: 1, 2: 2}, (0, {}, 1),
        ]
        for value in WRONG + wrong:
            self.assertEqual(raised(renamed, net, value), BAD_ORDER, value)
            self.assertTrue(unchanged(renamed, net, value))
        self.assertEqual(raised(renamed, (1, ()), (False,)), BAD_ORDER)
        self.assertEqual(raised(renamed, (1, ()), (1,)), BAD_ORDER)


class MirroredTurnedTest(unittest.TestCase):
    def test_mirrored(self):
        net = read_net("2: 00>01|10>00|01>01 01>10 10>00|11>00")
        self.assertEqual(write_net(mirrored(net)), "2: 01>01|10>00|00>01 01>10 11>00|10>00")

    def test_mirrored_rules_are_sorted_again(self):
        self.assertEqual(write_net(mirrored(read_net("1: 1>0|9>0 2>0|3>0"))), "1: 3>0|2>0 9>0|1>0")

    def test_turned(self):
        net = read_net("2: 00>01|10>00|01>02 01>10")
        self.assertEqual(write_net(turned(net)), "2: 01>00|00>10|02>01 10>01")

    def test_turned_rules_are_sorted_again(self):
        self.assertEqual(write_net(turned(read_net("1: 1>9 2>3"))), "1: 3>2 9>1")

    def test_twice_leads_back(self):
        net = read_net("2: 00>01|10>00|01>02 01>10 10>00|11>00 99>00")
        self.assertEqual(mirrored(mirrored(net)), net)
        self.assertEqual(turned(turned(net)), net)


class JoinedTest(unittest.TestCase):
    def test_rules_of_both(self):
        net, other = read_net("1: 0>1 2>1"), read_net("1: 1>0|0>1")
        self.assertEqual(write_net(joined(net, other)), "1: 0>1 1>0|0>1 2>1")
        self.assertEqual(joined(other, net), joined(net, other))

    def test_different_numbers_of_pools(self):
        net, other = read_net("1: 1>2|0>1"), read_net("3: 001>100")
        self.assertEqual(write_net(joined(net, other)), "3: 001>100 100>200|000>100")
        self.assertEqual(joined(other, net), joined(net, other))
        self.assertEqual(joined((1, ()), (4, ())), (4, ()))
        self.assertEqual(joined(net, (4, ())), read_net("4: 1000>2000|0000>1000"))

    def test_the_same_rule_in_both_stands_once(self):
        net, other = read_net("1: 1>0 2>0"), read_net("1: 1>0 3>0")
        self.assertEqual(write_net(joined(net, other)), "1: 1>0 2>0 3>0")
        self.assertEqual(joined(net, net), net)
        self.assertEqual(write_net(joined(net, read_net("2: 10>00"))), "2: 10>00 20>00")

    def test_just_eight_and_more(self):
        five, four = (1, NINE[:5]), (1, NINE[5:])
        self.assertEqual(joined(five, (1, EIGHT[5:])), (1, EIGHT))
        self.assertEqual(joined((1, EIGHT), (1, EIGHT)), (1, EIGHT))
        self.assertEqual(joined((1, EIGHT), five), (1, EIGHT))
        self.assertEqual(raised(joined, five, four), too_many(8))
        self.assertEqual(raised(joined, (1, EIGHT), (2, ((((1, 1), (0, 0)),),))), too_many(8))
        self.assertEqual(raised(joined, (1, EIGHT), turned((1, EIGHT))), too_many(8))

    def test_bad_other(self):
        for value in WRONG + NO_NETS:
            self.assertEqual(raised(joined, (1, EIGHT), value), bad_net(None), value)
            self.assertTrue(unchanged(joined, (1, EIGHT), value))
        for value in NO_RULES:
            self.assertEqual(raised(joined, (1, EIGHT), (1, (EAT, value))), bad_net(1), value)

    def test_the_first_net_comes_first(self):
        self.assertEqual(raised(joined, (1, (None,)), None), bad_net(0))
        self.assertEqual(raised(joined, None, (1, (None,))), bad_net(None))


if __name__ == "__main__":
    unittest.main()
