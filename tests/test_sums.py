"""Sums that no deed changes, and pools that can be filled."""

import itertools
import math
import unittest
from collections import deque

from poolrows.nets import mirrored, renamed
from poolrows.nettext import read_net, write_net
from poolrows.rows import deeds, done
from poolrows.sums import can_fill, kept_at_places, kept_sums
from tests.helpers import BAD_POOLS, WRONG, bad_net, drawn_movers, drawn_nets, raised, unchanged

# Nets with their kept sums, and those kept at each place.
KEPT = [
    ("1:", ((1,),), ((1,),)), ("2:", ((1, 0), (0, 1)), ((1, 0), (0, 1))),
    ("4:", ((1, 0, 0, 0), (0, 1, 0, 0), (0, 0, 1, 0), (0, 0, 0, 1)),
     ((1, 0, 0, 0), (0, 1, 0, 0), (0, 0, 1, 0), (0, 0, 0, 1))),
    ("1: 1>0", (), ()), ("1: 1>2", (), ()), ("1: 1>0|0>1", ((1,),), ()), ("1: 1>1|2>3|1>0", ((1,),), ()),
    ("2: 10>01", ((1, 1),), ((1, 1),)), ("2: 20>01", ((1, 2),), ((1, 2),)), ("2: 01>20", ((1, 2),), ((1, 2),)),
    ("2: 10>11", ((1, 0),), ((1, 0),)), ("2: 10>00", ((0, 1),), ((0, 1),)), ("2: 11>00", ((-1, 1),), ((-1, 1),)),
    ("2: 23>00", ((-3, 2),), ((-3, 2),)), ("2: 64>00", ((-2, 3),), ((-2, 3),)), ("2: 10>01 10>02", (), ()),
    ("2: 10>00|00>01", ((1, 1),), ()), ("2: 10>01|01>10", ((1, 0), (0, 1)), ((1, 1),)),
    ("3: 110>001 200>010|000>001", ((2, 1, 3),), ()), ("3: 100>010", ((1, 1, 0), (0, 0, 1)), ((1, 1, 0), (0, 0, 1))),
    ("3: 001>110", ((-1, 1, 0), (1, 0, 1)), ((-1, 1, 0), (1, 0, 1))),
    ("3: 010>100|001>000|000>001", ((1, 1, 0), (0, 0, 1)), ((1, 1, 0),)),
    ("3: 006>400", ((0, 1, 0), (3, 0, 2)), ((0, 1, 0), (3, 0, 2))),
    ("4: 0010>0001 1000>0002", ((0, 1, 0, 0), (2, 0, 1, 1)), ((0, 1, 0, 0), (2, 0, 1, 1))),
    ("4: 0203>0000 2000>0000|0030>0000", ((-3, 0, 2, 0), (0, -3, 0, 2)), ((0, -3, 0, 2),)),
    ("4: 9990>0001", ((-1, 1, 0, 0), (-1, 0, 1, 0), (1, 0, 0, 9)), ((-1, 1, 0, 0), (-1, 0, 1, 0), (1, 0, 0, 9))),
]

# Nets and pools, with those that can be filled.
FILLED = [
    ("1:", (), ()), ("1:", (0,), (0,)), ("1: 1>2", (), ()), ("1: 1>2", (0,), (0,)), ("1: 0>1", (), (0,)),
    ("2: 10>01", (), ()), ("2: 10>01", (0,), (0, 1)), ("2: 10>01", (1,), (1,)), ("2: 10>01", (0, 1), (0, 1)),
    ("2: 90>09", (0,), (0, 1)), ("2: 11>12", (0,), (0,)), ("2: 11>12", (0, 1), (0, 1)), ("2: 10>00|01>02", (0,), (0,)),
    ("2: 10>00|00>01", (0,), (0, 1)), ("2: 00>01|10>00", (0,), (0, 1)), ("2: 00>01|00>00|90>90", (0,), (0, 1)),
    ("2: 00>10|10>01", (), ()), ("2: 00>10 10>01", (), (0, 1)), ("2: 00>10 10>01", (1,), (0, 1)),
    ("2: 10>00|10>00|10>02", (0,), (0, 1)),
    ("3: 001>010 100>001", (0,), (0, 1, 2)), ("3: 010>001 100>010", (0,), (0, 1, 2)),
    ("3: 010>001 100>010", (1,), (1, 2)),
    ("3: 010>001 100>010", (2,), (2,)), ("3: 100>000|010>000|000>001", (0, 1), (0, 1, 2)),
    ("3: 100>000|010>000|000>001", (0,), (0,)), ("3: 100>000|010>000|000>001", (1,), (1,)),
    ("3: 110>001 200>010|000>001", (0,), (0, 1, 2)), ("3: 110>001 200>010|000>001", (1, 2), (1, 2)),
    ("4: 0001>0010 0010>0100 0100>1000", (3,), (0, 1, 2, 3)), ("4: 0001>0010 0010>0100 0100>1000", (2,), (0, 1, 2)),
    ("4: 0001>0010 0010>0100 0100>1000", (0,), (0,)), ("4: 0000>1000 1000>0100 1100>0010 1110>0001", (), (0, 1, 2, 3)),
]

BAD = [
    (0, 0), (1, 0), (0, 1, 1), (2, 1), (-1,), (3,), (0, 3), (0, 1, 2, 3), [0], [], (True,), (False,), (0, True),
    (None,),
    ("0",), ((0,),), ([0],), (0, [1]), (0, "1"), {0: 1}, {}, "0", "", 0, 1, None, True, False, (0, 2, 1), (0, {}),
]


def sum_of_tokens(weights, row):
    """Return the sum over all tokens of the row."""
    return sum(weight * tokens for place in row for weight, tokens in zip(weights, place))


def rows_behind(net, row):
    """Return the fillings one deed behind the row."""
    return [done(net, row, deed) for deed in deeds(net, row)]


def last_pool(weights):
    """Return the greatest pool with a weight that is not 0."""
    return max(pool for pool, weight in enumerate(weights) if weight != 0)


def made_up(weights, basis):
    """Return whether the weights are a sum of multiples of those of the basis."""
    left = [weight * math.prod(other[last_pool(other)] for other in basis) for weight in weights]
    for other in basis:
        pool = last_pool(other)
        times = left[pool] // other[pool]
        left = [weight - times * own for weight, own in zip(left, other)]
    return not any(left)


def most_taken(rule):
    """Return the greatest number that the rule takes from a pool at a place."""
    return max(taken for takes, _ in rule for taken in takes)


def walked(net, pools, aim):
    """Return the pools that get tokens on a row of some places, at least up to the aim."""
    row = (tuple(9 if pool in pools else 0 for pool in range(net[0])),) * 6
    filled, found, left = set(pools), {row}, deque([row])
    while left and filled != set(aim) and len(found) < 500:
        for further in rows_behind(net, left.popleft()):
            if further not in found and max(map(max, further)) <= 99:
                found.add(further)
                left.append(further)
                filled |= {pool for place in further for pool, tokens in enumerate(place) if tokens > 0}
    return filled


class KeptTest(unittest.TestCase):
    def test_nets(self):
        for text, sums, at_places in KEPT:
            net = read_net(text)
            self.assertEqual(kept_sums(net), sums, text)
            self.assertEqual(kept_at_places(net), at_places, text)

    def test_form(self):
        for net in drawn_nets(5, 200, rules=3) + drawn_movers(5, 100):
            for basis in (kept_sums(net), kept_at_places(net)):
                free = [last_pool(weights) for weights in basis]
                self.assertEqual(free, sorted(set(free)), write_net(net))
                self.assertIs(type(basis), tuple)
                for pool, weights in zip(free, basis):
                    self.assertEqual((type(weights), len(weights)), (tuple, net[0]))
                    self.assertEqual(math.gcd(*weights), 1, write_net(net))
                    self.assertGreater(weights[pool], 0, write_net(net))
                    self.assertEqual([weights[other] for other in free if other != pool], [0] * (len(free) - 1))

    def test_no_deed_changes_them(self):
        for net in drawn_nets(6, 150, rules=3) + drawn_movers(6, 100):
            row = ((9,) * net[0],) * 4
            for further in rows_behind(net, row):
                for weights in kept_sums(net):
                    self.assertEqual(sum_of_tokens(weights, further), sum_of_tokens(weights, row), write_net(net))
                for weights in kept_at_places(net):
                    for place, before in zip(further, row):
                        self.assertEqual(sum_of_tokens(weights, [place]), sum_of_tokens(weights, [before]))

    def test_they_make_up_all_others(self):
        for net in drawn_nets(7, 60, pools=3, rules=2) + drawn_movers(7, 60, pools=3, rules=3):
            row = ((9,) * net[0],) * 3
            behind = rows_behind(net, row)
            for weights in itertools.product(range(-3, 4), repeat=net[0]):
                kept = all(sum_of_tokens(weights, further) == sum_of_tokens(weights, row) for further in behind)
                self.assertEqual(kept, made_up(weights, kept_sums(net)), (write_net(net), weights))
                kept = all(
                    sum_of_tokens(weights, [place]) == sum_of_tokens(weights, [before])
                    for further in behind for place, before in zip(further, row))
                self.assertEqual(kept, made_up(weights, kept_at_places(net)), (write_net(net), weights))

    def test_mirrored(self):
        for net in drawn_nets(8, 60, rules=3):
            self.assertEqual(kept_sums(net), kept_sums(mirrored(net)))
            self.assertEqual(kept_at_places(net), kept_at_places(mirrored(net)))


class FillTest(unittest.TestCase):
    def test_nets(self):
        for text, pools, filled in FILLED:
            self.assertEqual(can_fill(read_net(text), pools), filled, (text, pools))
            self.assertIs(type(can_fill(read_net(text), pools)), tuple)

    def test_fillings_that_come(self):
        small = [net for net in drawn_nets(9, 250, rules=4) if max(map(most_taken, net[1]), default=0) < 4]
        for net in small + drawn_movers(9, 120):
            for pools in [pools for many in range(net[0]) for pools in itertools.combinations(range(net[0]), many)]:
                filled = can_fill(net, pools)
                self.assertEqual(sorted(walked(net, pools, filled)), list(filled), (write_net(net), pools))

    def test_all_pools_and_renamed_ones(self):
        for net in drawn_nets(10, 60, pools=3):
            everything = tuple(range(net[0]))
            self.assertEqual(can_fill(net, everything), everything)
            for order in itertools.permutations(everything):
                named = tuple(sorted(order[pool] for pool in can_fill(net, (0,))))
                self.assertEqual(can_fill(renamed(net, order), (order[0],)), named)

    def test_bad_pools(self):
        net = read_net("3: 100>010")
        for value in BAD + [value for value in WRONG if value != (1, 2)]:
            self.assertEqual(raised(can_fill, net, value), BAD_POOLS, value)
            self.assertTrue(unchanged(can_fill, net, value))
        self.assertEqual(raised(can_fill, read_net("1:"), (1,)), BAD_POOLS)
        self.assertEqual(raised(can_fill, read_net("4:"), (4,)), BAD_POOLS)
        self.assertEqual(can_fill(read_net("4:"), (0, 1, 2, 3)), (0, 1, 2, 3))

    def test_the_net_comes_first(self):
        for value in BAD:
            self.assertEqual(raised(can_fill, (5, ()), value), bad_net(None))
            self.assertEqual(raised(can_fill, (1, (None,)), value), bad_net(0))


if __name__ == "__main__":
    unittest.main()
