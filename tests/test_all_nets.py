"""What holds for all nets: which of two answers is found, that it is judged right, and how nets' answers agree."""

import copy
import itertools
import unittest

from poolrows.climbs import bounded, ends, falling, holding, shows_falling, shows_holding
from poolrows.knots import knot, rising, shows_knot, shows_rising
from poolrows.lengths import (
    run_degree, run_ladder, run_levels, shows_run_ladder, shows_run_levels, shows_token_ladder, shows_token_levels,
    token_degree, token_ladder, token_levels,
)
from poolrows.nets import joined, mirrored, renamed
from poolrows.nettext import read_net, write_net
from poolrows.sums import can_fill, kept_at_places, kept_sums
from tests.helpers import drawn_movers, drawn_nets

NETS = drawn_nets(20, 170) + drawn_movers(20, 100) + drawn_movers(21, 70, rules=8)

FOUND = [falling, holding, knot, rising, run_levels, token_levels, run_ladder, token_ladder, kept_sums, kept_at_places]
ANSWERS = [ends, bounded, run_degree, token_degree]
JUDGES = [
    (shows_falling, falling), (shows_holding, holding), (shows_knot, knot), (shows_rising, rising),
    (shows_run_levels, run_levels), (shows_token_levels, token_levels), (shows_run_ladder, run_ladder),
    (shows_token_ladder, token_ladder),
]


def kinds(value):
    """Return the kinds of all that the value is made of."""
    if isinstance(value, (tuple, list, dict)):
        return {type(value)}.union(*[kinds(item) for item in value])
    return {type(value)}


def degree_order(degree):
    """Return a number that puts degrees in order, a missing one last."""
    return 99 if degree is None else degree


class FoundTest(unittest.TestCase):
    def test_just_one_is_found(self):
        for net in NETS:
            self.assertNotEqual(falling(net) is None, knot(net) is None, write_net(net))
            self.assertNotEqual(holding(net) is None, rising(net) is None, write_net(net))
            self.assertEqual((ends(net), bounded(net)), (falling(net) is not None, holding(net) is not None))
            self.assertTrue(bounded(net) or not ends(net), write_net(net))

    def test_what_is_found_is_judged_right(self):
        for net in NETS:
            for shows, finds in JUDGES:
                found = finds(net)
                self.assertIs(shows(net, found), True, (write_net(net), found))
                self.assertIs(shows(net, None), found is None, write_net(net))

    def test_a_judge_takes_nothing_but_none_where_nothing_can_be_shown(self):
        for net, other in zip(NETS, NETS[1:]):
            for shows, finds in JUDGES:
                if finds(net) is None:
                    for value in [finds(other), (), (("even", (1,) * net[0]),), ((1,) * len(net[1]),)]:
                        self.assertIs(shows(net, value), value is None, (write_net(net), value))

    def test_nets_of_each_size(self):
        sizes = {(net[0], len(net[1])) for net in NETS}
        self.assertEqual({pools for pools, _ in sizes}, {1, 2, 3, 4})
        self.assertEqual({rules for _, rules in sizes}, set(range(9)))
        self.assertEqual({len(rule) for net in NETS for rule in net[1]}, {1, 2, 3})

    def test_each_combination_of_answers_comes(self):
        answers = {(ends(net), bounded(net)) for net in NETS}
        self.assertEqual(answers, {(True, True), (False, True), (False, False)})
        degrees = {(run_degree(net), token_degree(net)) for net in NETS}
        self.assertLessEqual({(0, 1), (1, 1), (2, 1), (2, 2), (3, 2), (None, 1), (None, None)}, degrees)


class ValuesTest(unittest.TestCase):
    def test_integers_alone(self):
        for net in NETS[::3]:
            for finds in FOUND:
                self.assertLessEqual(kinds(finds(net)), {int, str, tuple, type(None)}, write_net(net))
            for answers in (run_degree, token_degree):
                self.assertIn(type(answers(net)), (int, type(None)))
            self.assertIs(type(ends(net)), bool)
            self.assertIs(type(bounded(net)), bool)

    def test_arguments_stay_and_answers_are_equal(self):
        for net in NETS[::9]:
            kept = copy.deepcopy(net)
            for finds in FOUND + ANSWERS:
                self.assertEqual(finds(net), finds(kept))
            self.assertEqual(net, kept)
        for value in ([["early", [1]]], {1: [2]}, ([1], [[2]], {}), (("even", [1]),)):
            kept = copy.deepcopy(value)
            for shows, _ in JUDGES:
                self.assertIs(shows(read_net("1: 1>0|0>1"), value), False)
                self.assertIs(shows(read_net("1: 1>2"), value), False)
            self.assertEqual(value, kept)

    def test_deep_and_long_values(self):
        deep = ()
        for _ in range(5000):
            deep = (deep,)
        net = read_net("1: 1>0|0>1")
        for value in (deep, (deep,) * 3, (("even", deep),), ((deep, (1,)),), ((1,), deep, deep), ((1,), (deep,), ())):
            for shows, _ in JUDGES:
                self.assertIs(shows(net, value), False)
        self.assertIs(shows_run_levels(net, (("even", (1,)),) * 3000 + (("early", (1,)),)), True)
        self.assertIs(shows_falling(net, (("even", (1,)),) * 3000 + (("early", (10 ** 500,)),)), True)


class AgreementTest(unittest.TestCase):
    def test_mirrored(self):
        for net in NETS:
            other = mirrored(net)
            for answer in ANSWERS:
                self.assertEqual(answer(net), answer(other), write_net(net))

    def test_renamed(self):
        for net in NETS[::5]:
            for order in itertools.islice(itertools.permutations(range(net[0])), 0, None, 5):
                other = renamed(net, order)
                self.assertEqual([answer(net) for answer in ANSWERS], [answer(other) for answer in ANSWERS])

    def test_fewer_rules(self):
        for net in NETS[::2]:
            for k in range(len(net[1])):
                part = (net[0], net[1][:k] + net[1][k + 1:])
                self.assertTrue(ends(part) or not ends(net), write_net(net))
                self.assertTrue(bounded(part) or not bounded(net), write_net(net))
                self.assertLessEqual(degree_order(run_degree(part)), degree_order(run_degree(net)), write_net(net))
                self.assertLessEqual(degree_order(token_degree(part)), degree_order(token_degree(net)), write_net(net))
                self.assertLessEqual(set(can_fill(part, (0,))), set(can_fill(net, (0,))), write_net(net))

    def test_side_by_side(self):
        """Two nets with pools of their own do not change each other's runs."""
        some = [net for net in NETS if net[0] <= 2 and len(net[1]) <= 4]
        for net, other in zip(some[:60], some[60:120]):
            moved = (4, tuple(
                tuple(((0,) * (4 - other[0]) + takes, (0,) * (4 - other[0]) + puts) for takes, puts in rule)
                for rule in other[1]))
            both = joined(net, moved)
            self.assertEqual(ends(both), ends(net) and ends(other), write_net(both))
            self.assertEqual(bounded(both), bounded(net) and bounded(other), write_net(both))
            for degree in (run_degree, token_degree):
                most = max(degree_order(degree(net)), degree_order(degree(other)))
                self.assertEqual(degree_order(degree(both)), most, write_net(both))

    def test_degrees_and_ends(self):
        for net in NETS:
            runs, tokens = run_degree(net), token_degree(net)
            self.assertTrue(runs is None or ends(net), write_net(net))
            self.assertTrue(tokens is None or bounded(net), write_net(net))
            self.assertTrue(runs is None or tokens is not None and tokens <= max(runs, 1), write_net(net))


if __name__ == "__main__":
    unittest.main()
