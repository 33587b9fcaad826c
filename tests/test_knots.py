"""Knots, with a gain or without one."""

import unittest

from poolrows.climbs import bounded, ends
from poolrows.knots import knot, rising, shows_knot, shows_rising
from poolrows.nettext import read_net, write_net
from tests import plain
from tests.helpers import WRONG, drawn_movers, drawn_nets, near, unchanged

JUDGES = [(shows_knot, knot, plain.is_knot), (shows_rising, rising, plain.is_rising)]

ONE = (((1,),),)
# Firsts and lasts of "1: 0>1|1>0 1>0|0>1", which moves a token to and fro.
FIRSTS = (((1, 0), (1, 0)), ((0, 1), (0, 1)))
LASTS = (((0, 1), (0, 1)), ((1, 0), (1, 0)))
SWAP = "1: 0>1|1>0 1>0|0>1"
# Firsts and lasts of "1: 0>1|1>0|0>1", which moves a token to both sides.
FORK_FIRSTS = (((1, 0, 0),), ((1, 1, 0),), ((0, 0, 1),))
FORK_LASTS = (((0, 0, 1),), ((0, 1, 1),), ((1, 0, 0),))
FORK = "1: 0>1|1>0|0>1"
# One rule makes tokens, another one takes them away.
MADE = "1: 0>1 1>0"
# Turns a token of one pool into one of the other and back; the third rule loses it.
TURN = "2: 01>10 10>00 10>01"
TURNS = (((1,), (0,), (1,)),)

# Nets and values, with whether they are knots, and knots with a gain.
KNOTS = [
    ("1: 1>2", ((1,), ONE, ONE), True, True), ("1: 0>1", ((5,), ONE, ((((7,),)),)), True, True),
    (SWAP, ((1, 1), FIRSTS, LASTS), True, False), (SWAP, ((3, 3), FIRSTS * 2, LASTS * 2), True, False),
    (SWAP, ((1, 1), FIRSTS, LASTS + (((0, 0), (0, 0)),)), True, False),
    (SWAP, ((1, 1), (((2, 0), (2, 0)), ((5, 1), (6, 2))), LASTS), True, False),
    (FORK, ((1,), FORK_FIRSTS, FORK_LASTS), True, True),
    (MADE, ((1, 1), (((1,), (1,)),), (((1,), (1,)),)), True, False),
    (MADE, ((2, 1), (((1,), (1,)),), (((1,), (1,)),)), True, True), (MADE, ((1, 0), (), ()), False, False),
    (MADE, ((1, 0), (((1,), (0,)),), (((3,), (0,)),)), True, True), (TURN, ((1, 0, 1), TURNS, TURNS), True, False),
    # The lot.
    ("1: 1>2", ((0,), (), ()), False, False), ("1: 1>2", ((0,), ONE, ONE), False, False),
    ("1: 1>2", ((-1,), ONE, ONE), False, False), ("1: 1>2", ((), ONE, ONE), False, False),
    ("1: 1>2", ((1, 0), ONE, ONE), False, False), ("1: 1>2", ((True,), ONE, ONE), False, False),
    ("1: 1>2", ([1], ONE, ONE), False, False), ("1: 1>2", (1, ONE, ONE), False, False),
    ("1: 1>2", (("1",), ONE, ONE), False, False), ("1: 1>0", ((1,), ONE, ONE), False, False),
    (MADE, ((1, 2), (((1,), (1,)),), (((1,), (1,)),)), False, False), (TURN, ((1, 0, 2), TURNS, TURNS), False, False),
    (TURN, ((1, 1, 1), (((1,), (0,), (1,)),), TURNS), False, False), (SWAP, ((1, 0), FIRSTS, LASTS), False, False),
    (FORK, ((0,), FORK_FIRSTS, FORK_LASTS), False, False), ("1:", ((), (), ()), False, False),
    # Not of its form.
    ("1: 1>2", [(1,), ONE, ONE], False, False), ("1: 1>2", ((1,), ONE), False, False),
    ("1: 1>2", ((1,), ONE, ONE, ONE), False, False), ("1: 1>2", ((1,), ONE, None), False, False),
    ("1: 1>2", ((1,), [((1,),)], ONE), False, False), ("1: 1>2", ((1,), ONE, [((1,),)]), False, False),
    ("1: 1>2", ((1,), ([(1,)],), ONE), False, False), ("1: 1>2", ((1,), (([1],),), ONE), False, False),
    ("1: 1>2", ((1,), (((True,),),), ONE), False, False), ("1: 1>2", ((1,), ONE, (((True,),),)), False, False),
    ("1: 1>2", ((1,), (((1,), (0,)),), ONE), False, False), ("1: 1>2", ((1,), (((1, 0),),), ONE), False, False),
    ("1: 1>2", ((1,), (((),),), ONE), False, False), ("1: 1>2", ((1,), ((),), ONE), False, False),
    ("1: 1>2", ((1,), ((1,),), ONE), False, False), ("1: 1>2", ((1,), (((None,),),), ONE), False, False),
    (MADE, ((2, 1), (((2,), (-1,)), ((1,), (1,))), (((1,), (1,)),)), False, False),
    # Spreads that lower a pool, or raise one that is no gain.
    (MADE, ((2, 1), (((1,), (2,)),), (((1,), (1,)),)), False, False),
    (MADE, ((2, 1), (((1,), (1,)),), (((1,), (2,)),)), False, False),
    (MADE, ((1, 1), (((2,), (1,)),), (((1,), (1,)),)), False, False),
    (MADE, ((1, 1), (((1,), (1,)),), (((2,), (1,)),)), False, False),
    (MADE, ((2, 1), (((2,), (1,)),), (((3,), (1,)),)), True, True),
    (SWAP, ((1, 1), (((1, 0), (0, 0)), ((0, 1), (1, 1))), LASTS), False, False),
    # The place ahead, for lasts the one behind, in an earlier spread.
    (SWAP, ((1, 1), FIRSTS[::-1], LASTS), False, False), (SWAP, ((1, 1), FIRSTS, LASTS[::-1]), False, False),
    (SWAP, ((1, 1), LASTS, FIRSTS), False, False), (SWAP, ((1, 1), FIRSTS, FIRSTS), False, False),
    (SWAP, ((1, 1), (((1, 1), (1, 1)),), LASTS), False, False),
    (SWAP, ((1, 1), FIRSTS, (((1, 1), (1, 1)),)), False, False),
    (FORK, ((1,), FORK_FIRSTS[1:], FORK_LASTS), False, False),
    (FORK, ((1,), FORK_FIRSTS, FORK_LASTS[1:]), False, False),
    (FORK, ((1,), (((1, 0, 0),), ((1, 0, 1),), ((1, 1, 0),)), FORK_LASTS), False, False),
    (FORK, ((1,), FORK_FIRSTS, (((0, 0, 1),), ((1, 0, 1),), ((0, 1, 1),))), False, False),
    (FORK, ((1,), (((1, 0, 0),), ((1, 1, 1),)), FORK_LASTS), False, False),
    # Just all places of the rules of the lot.
    ("1: 1>2", ((1,), (), ONE), False, False), ("1: 1>2", ((1,), ONE, ()), False, False),
    ("1: 1>2", ((1,), (((0,),),), ONE), False, False), (SWAP, ((1, 1), FIRSTS[:1], LASTS), False, False),
    (SWAP, ((1, 1), FIRSTS, LASTS[:1]), False, False), (FORK, ((1,), FORK_FIRSTS[:2], FORK_LASTS), False, False),
    (MADE, ((1, 0), (((1,), (1,)),), (((1,), (0,)),)), False, False),
    (MADE, ((1, 0), (((1,), (0,)),), (((1,), (1,)),)), False, False),
    (MADE, ((2, 1), (((1,), (0,)),), (((1,), (1,)),)), False, False),
]


class KnotTest(unittest.TestCase):
    def test_knots(self):
        for text, value, any_knot, gaining in KNOTS:
            net = read_net(text)
            self.assertIs(shows_knot(net, value), any_knot, (text, value))
            self.assertIs(shows_rising(net, value), gaining, (text, value))

    def test_what_is_found(self):
        for net in drawn_nets(3, 150) + drawn_movers(3, 250) + [read_net(text) for text, _, _, _ in KNOTS]:
            for (shows, finds, judge), without in zip(JUDGES, (ends, bounded)):
                found = finds(net)
                self.assertEqual(found is None, without(net), write_net(net))
                self.assertIs(shows(net, found), True, write_net(net))
                self.assertIs(shows(net, None), found is None, write_net(net))
                self.assertTrue(found is None or judge(net, found), write_net(net))

    def test_none(self):
        for text in ("1:", "4:", "1: 1>0", "1: 1>0|0>1", "1: 0>2|1>0"):
            net = read_net(text)
            self.assertEqual([knot(net), rising(net), shows_knot(net, None), shows_rising(net, None)],
                             [None, None, True, True])
        for text in (SWAP, "2: 01>10 10>01", TURN):
            net = read_net(text)
            self.assertEqual([knot(net) is None, rising(net), shows_knot(net, None), shows_rising(net, None)],
                             [False, None, False, True])
        for text in ("1: 1>2", FORK, MADE):
            net = read_net(text)
            self.assertEqual([knot(net) is None, rising(net) is None, shows_knot(net, None), shows_rising(net, None)],
                             [False, False, False, False])

    def test_every_kind_of_value(self):
        for shows, finds, _ in JUDGES:
            for text in ("1:", "1: 1>0", "1: 1>2", SWAP, "3: 100>002|000>010"):
                net = read_net(text)
                for value in WRONG + [(part, part, part) for part in WRONG] + [((1,), part, ONE) for part in WRONG]:
                    self.assertIs(shows(net, value), value is None and finds(net) is None, (text, value))
                    self.assertTrue(unchanged(shows, net, value))

    def test_near_values(self):
        for net in drawn_nets(4, 30, pools=3, rules=4) + drawn_movers(4, 40, rules=3):
            for shows, finds, judge in JUDGES:
                for value in near(finds(net)):
                    self.assertIs(shows(net, value), judge(net, value), (write_net(net), value))

    def test_near_to_the_listed_ones(self):
        for text, known, _, _ in KNOTS:
            net = read_net(text)
            for value in near(known):
                self.assertIs(shows_knot(net, value), plain.is_knot(net, value), (text, value))
                self.assertIs(shows_rising(net, value), plain.is_rising(net, value), (text, value))


if __name__ == "__main__":
    unittest.main()
