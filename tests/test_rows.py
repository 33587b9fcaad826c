"""Rows: deeds and runs, and what comes behind all runs."""

import itertools
import unittest

from poolrows.nets import mirrored, renamed, turned
from poolrows.nettext import read_net
from poolrows.rows import after, all_come, deeds, done, goes_on, longest
from tests.helpers import (
    BAD_DEED, NOT_ENDING, WRONG, bad_net, bad_row, bad_run, raised, too_many, unchanged,
)

ON = read_net("1: 1>0|0>1")
EAT = read_net("1: 1>0")
GROW = read_net("1: 1>2")
TURN = read_net("2: 01>10 10>01")
MIXED = read_net("2: 01>00|10>11 10>00|00>00|01>10 11>20")
# Moves a token to and fro, so each filling is on a loop.
SWAP = read_net("1: 0>1|1>0 1>0|0>1")
# Moves a token to and fro and makes new ones.
SWAP_AND_GROW = read_net("1: 0>1|1>0 1>0|0>1 1>2")

# Each function that takes a row, with wrong values for all further arguments: the row's error comes first.
TAKERS = [(deeds, []), (done, [None]), (after, [None]), (all_come, []), (goes_on, []), (longest, [])]

SMALL_NETS = [ON, EAT, TURN, MIXED, SWAP, read_net("1:"), read_net("2: 02>10 10>01|00>00 11>00|00>10")]


def small_rows(net):
    """Return all rows of one and two places with few tokens, and some of three."""
    places = list(itertools.product(range(3), repeat=net[0]))
    return [(place,) for place in places] + list(itertools.product(places, repeat=2)) + [(places[-1],) * 3]


def plain_deeds(net, row):
    """Return all deeds that can be done, by trying all pairs."""
    found = []
    for at, rule in enumerate(net[1]):
        for spots in itertools.product(range(len(row)), repeat=len(rule)):
            if list(spots) == sorted(set(spots)) and all(
                    row[spot][pool] >= rule[k][0][pool] for k, spot in enumerate(spots) for pool in range(net[0])):
                found.append((at, spots))
    return tuple(sorted(found))


def plain_done(net, row, deed):
    """Return the filling behind a deed."""
    at, spots = deed
    places = [list(place) for place in row]
    for spot, (takes, puts) in zip(spots, net[1][at]):
        for pool in range(net[0]):
            places[spot][pool] += puts[pool] - takes[pool]
    return tuple(tuple(place) for place in places)


def plain_come(net, row):
    """Return all fillings that come."""
    found = {row}
    while True:
        further = {plain_done(net, filling, deed) for filling in found for deed in plain_deeds(net, filling)}
        if further <= found:
            return sorted(found)
        found |= further


def plain_longest(net, row, path=()):
    """Return how many deeds a run makes at most, None if one goes on for ever."""
    if row in path:
        return None
    behind = [plain_longest(net, plain_done(net, row, deed), path + (row,)) for deed in plain_deeds(net, row)]
    return None if None in behind else max([0] + [most + 1 for most in behind])


class JudgingRowsTest(unittest.TestCase):
    def check_all(self, net, value, error):
        for taker, further in TAKERS:
            self.assertEqual(raised(taker, net, value, *further), error, (taker, value))
            self.assertTrue(unchanged(taker, net, value, *further))

    def test_no_tuple_of_one_to_six_items(self):
        wrong = [
            0, 1, True, False, None, "", "1", [], [(1,)], {}, {0: (1,)}, (), ((1,),) * 7, (None,) * 7, [[1]],
        ]
        for value in wrong:
            self.check_all(ON, value, bad_row(None))

    def test_no_place(self):
        wrong = [
            0, 1, True, None, "", "1", [], [1], {}, {1: 1}, (), (1, 1), (-1,), (100,), (10 ** 40,), (True,),
            (False,), (None,), ("1",), ([1],), ((1,),), ({},),
        ]
        for value in wrong:
            self.check_all(ON, (value,), bad_row(0))
            self.check_all(ON, ((1,), (0,), value), bad_row(2))
            self.check_all(ON, ((1,), value, None, (1,), (1,), (1,)), bad_row(1))

    def test_numbers_of_pools(self):
        self.check_all(TURN, ((1, 0), (1,)), bad_row(1))
        self.check_all(TURN, ((1, 0, 0), (1, 0)), bad_row(0))
        self.check_all(TURN, ((1, 0), (0, True)), bad_row(1))
        self.check_all(TURN, ((1, 0), (0, 100)), bad_row(1))
        self.check_all((4, ()), ((0, 99, 0, 99), (0, 99, 0)), bad_row(1))

    def test_the_net_comes_first(self):
        for value in WRONG:
            self.check_all(value, None, bad_net(None))
            self.check_all((1, (value,)), None, bad_net(0))

    def test_edges(self):
        for net in SMALL_NETS:
            for many in (1, 6):
                for tokens in (0, 99):
                    row = ((tokens,) * net[0],) * many
                    self.assertEqual(deeds(net, row), plain_deeds(net, row))
                    self.assertEqual(after(net, row, ()), row)


class DeedsTest(unittest.TestCase):
    def test_all_deeds_that_can_be_done(self):
        for net in SMALL_NETS:
            for row in small_rows(net):
                self.assertEqual(deeds(net, row), plain_deeds(net, row))

    def test_six_places(self):
        net = read_net("1: 1>0 1>0|0>1 1>0|1>0|1>0")
        row = ((1,), (0,), (1,), (0,), (0,), (1,))
        self.assertEqual(deeds(net, row), plain_deeds(net, row))
        self.assertEqual(len(deeds(net, ((9,),) * 6)), 6 + 15 + 20)

    def test_a_rule_longer_than_the_row(self):
        self.assertEqual(deeds(ON, ((5,),)), ())
        self.assertEqual(deeds(read_net("1: 1>0|0>1|0>0 2>0"), ((5,), (5,))), ((1, (0,)), (1, (1,))))

    def test_each_pool_needs_its_tokens(self):
        net = read_net("3: 213>000")
        self.assertEqual(deeds(net, ((2, 1, 3), (1, 1, 3), (2, 0, 3), (2, 1, 2), (9, 9, 9))), ((0, (0,)), (0, (4,))))

    def test_no_deed(self):
        self.assertEqual(deeds((2, ()), ((1, 1),)), ())
        self.assertEqual(deeds(EAT, ((0,), (0,))), ())


class DoneTest(unittest.TestCase):
    def test_takes_and_puts(self):
        self.assertEqual(done(MIXED, ((3, 4), (5, 6), (7, 8)), (0, (0, 2))), ((3, 3), (5, 6), (7, 9)))
        self.assertEqual(done(MIXED, ((3, 4), (5, 6), (7, 8)), (1, (0, 1, 2))), ((2, 4), (5, 6), (8, 7)))
        self.assertEqual(done(read_net("1: 0>9"), ((99,),), (0, (0,))), ((108,),))

    def test_all_deeds(self):
        for net in SMALL_NETS:
            for row in small_rows(net):
                for deed in deeds(net, row):
                    self.assertEqual(done(net, row, deed), plain_done(net, row, deed))

    def test_no_deed_of_the_row(self):
        row = ((2,), (2,), (2,))
        wrong = [
            (0,), (0, (0, 1), 1), [0, (0, 1)], (0, [0, 1]), (1, (0, 1)), (-1, (0, 1)), (False, (0, 1)),
            (None, (0, 1)), ("0", (0, 1)), ((0,), (0, 1)), (0, (0,)), (0, (0, 1, 2)), (0, ()), (0, (1, 0)),
            (0, (1, 1)), (0, (0, 3)), (0, (-1, 1)), (0, (0, True)), (0, (False, 1)), (0, (0, None)),
            (0, (0, "1")), (0, (0, [1])), (0, (0, (1,))), (0, 0), (0, None), (0, "01"), {0: (0, 1)}, (0, {0: 1}),
            (True, (0, 1)), (0, (0, 10 ** 40)),
        ]
        for value in WRONG + wrong:
            self.assertEqual(raised(done, ON, row, value), BAD_DEED, value)
            self.assertTrue(unchanged(done, ON, row, value))
        self.assertEqual(raised(done, (1, ()), row, (0, (0,))), BAD_DEED)
        two = read_net("1: 1>0 2>0")
        self.assertEqual(raised(done, two, row, (True, (0,))), BAD_DEED)
        self.assertEqual(raised(done, ON, ((1,),), (0, (0, 1))), BAD_DEED)

    def test_deeds_that_cannot_be_done(self):
        self.assertEqual(raised(done, ON, ((0,), (1,)), (0, (0, 1))), BAD_DEED)
        self.assertEqual(raised(done, TURN, ((1, 0),), (0, (0,))), BAD_DEED)
        self.assertEqual(raised(done, MIXED, ((0, 1), (0, 1)), (0, (0, 1))), BAD_DEED)


class AfterTest(unittest.TestCase):
    def test_runs(self):
        row = ((2,), (0,), (0,))
        self.assertEqual(after(ON, row, ()), row)
        self.assertEqual(after(ON, row, ((0, (0, 2)), (0, (0, 1)), (0, (1, 2)))), ((0,), (0,), (2,)))
        self.assertEqual(after(GROW, ((1,),), ((0, (0,)),) * 3), ((4,),))

    def test_two_hundred_deeds_and_one_more(self):
        deed = (0, (0,))
        self.assertEqual(after(GROW, ((1,),), (deed,) * 200), ((201,),))
        self.assertEqual(after(read_net("1: 0>9"), ((99,),), (deed,) * 200), ((1899,),))
        self.assertEqual(raised(after, GROW, ((1,),), (deed,) * 201), bad_run(None))
        self.assertEqual(raised(after, GROW, ((0,),), (deed,) * 201), bad_run(None))

    def test_no_tuple_of_deeds(self):
        row = ((2,), (2,), (2,))
        deed = (0, (0, 1))
        wrong = [
            [], [deed], {}, {deed: 1}, None, "", 0, True, deed, (deed, None), (deed, [0, (0, 1)]),
            (deed, (0, (1, 0))), (deed, (1, (0, 1))), (deed, (0, (0, 3))), (deed, (False, (0, 1))),
            (deed, (0, (0, True))), (deed, (0, [0, 1])), (deed, (0, (0,))), ((deed,),), (deed, deed, ()),
        ]
        for value in WRONG + wrong:
            self.assertEqual(raised(after, ON, row, value), bad_run(None), value)
            self.assertTrue(unchanged(after, ON, row, value))
        self.assertEqual(raised(after, (1, ()), row, (deed,)), bad_run(None))

    def test_the_first_deed_that_cannot_be_done(self):
        row = ((1,), (0,), (0,))
        on, back = (0, (0, 1)), (0, (1, 2))
        self.assertEqual(raised(after, ON, row, (back,)), bad_run(0))
        self.assertEqual(raised(after, ON, row, (on, on)), bad_run(1))
        self.assertEqual(raised(after, ON, row, (on, back, on, back)), bad_run(2))
        self.assertEqual(raised(after, EAT, ((99,), (99,)), ((0, (0,)),) * 200), bad_run(99))

    def test_what_is_no_deed_comes_ahead_of_what_cannot_be_done(self):
        row = ((1,), (0,), (0,))
        self.assertEqual(raised(after, ON, row, ((0, (1, 2)), None)), bad_run(None))
        self.assertEqual(raised(after, ON, row, ((0, (1, 2)), (0, (2, 1)))), bad_run(None))


class WalkingTest(unittest.TestCase):
    def test_small_rows(self):
        for net in SMALL_NETS:
            for row in small_rows(net):
                come = plain_come(net, row)
                self.assertEqual(all_come(net, row), come)
                most = plain_longest(net, row) if len(come) < 20 else None
                if most is not None:
                    self.assertEqual((goes_on(net, row), longest(net, row)), (False, most))
                elif len(come) < 20:
                    self.assertEqual(goes_on(net, row), True)
                    self.assertEqual(raised(longest, net, row), NOT_ENDING)

    def test_fillings_with_no_deed(self):
        for net, row in ((EAT, ((0,), (0,))), (ON, ((99,),)), ((2, ()), ((1, 2),)), (ON, ((0,), (5,)))):
            self.assertEqual(all_come(net, row), [row])
            self.assertIs(goes_on(net, row), False)
            self.assertEqual(longest(net, row), 0)

    def test_loops(self):
        for net, row in ((TURN, ((1, 0),)), (SWAP, ((1,), (0,))), (SWAP, ((2,), (0,), (1,)))):
            self.assertIs(goes_on(net, row), True)
            self.assertEqual(raised(longest, net, row), NOT_ENDING)
        self.assertEqual(all_come(SWAP, ((1,), (1,))), [((0,), (2,)), ((1,), (1,)), ((2,), (0,))])

    def test_a_loop_behind_other_deeds(self):
        net = read_net("3: 001>010 010>001 100>010")
        self.assertEqual(all_come(net, ((1, 0, 0),)), [((0, 0, 1),), ((0, 1, 0),), ((1, 0, 0),)])
        self.assertIs(goes_on(net, ((1, 0, 0),)), True)
        self.assertEqual(raised(longest, net, ((1, 0, 0),)), NOT_ENDING)

    def test_rules_that_can_loop_but_not_from_here(self):
        self.assertIs(goes_on(TURN, ((0, 0),)), False)
        self.assertIs(goes_on(SWAP, ((1,),)), False)
        self.assertEqual(longest(SWAP, ((99,),)), 0)

    def test_the_longest_run_is_told_where_others_are_shorter(self):
        net = read_net("1: 1>0 3>0")
        self.assertEqual(longest(net, ((9,),)), 9)
        net = read_net("3: 010>001 100>001 100>010")
        self.assertEqual(longest(net, ((1, 0, 0),)), 2)

    def test_long_runs(self):
        self.assertEqual(longest(ON, ((8,),) + ((0,),) * 5), 40)
        self.assertEqual(len(all_come(ON, ((8,),) + ((0,),) * 5)), 1287)
        self.assertEqual(longest(EAT, ((99,),)), 99)
        # One token of pool 0 gives nine of pool 1, one by one.
        net = read_net("2: 01>00 10>09")
        self.assertEqual(longest(net, ((12, 0),)), 120)
        # Each of nine tokens gives nine to the place behind it, where they vanish one by one.
        self.assertEqual(longest(read_net("1: 0>0|1>0 1>0|0>9"), ((9,), (9,))), 99)

    def test_numbers_above_99_that_come(self):
        net = read_net("1: 1>0|0>9")
        come = all_come(net, ((99,), (99,)))
        self.assertEqual((len(come), come[0], come[-1]), (100, ((0,), (990,)), ((99,), (99,))))
        self.assertEqual(longest(net, ((99,), (99,))), 99)
        self.assertIs(goes_on(net, ((99,), (99,))), False)

    def test_just_1500_fillings_and_one_more(self):
        row = ((14,), (9,), (9,))
        self.assertEqual(len(all_come(EAT, row)), 1500)
        self.assertEqual(longest(EAT, row), 32)
        self.assertIs(goes_on(EAT, row), False)
        for taker in (all_come, goes_on, longest):
            self.assertEqual(raised(taker, EAT, ((18,), (78,))), too_many(1500))
            self.assertEqual(raised(taker, EAT, ((99,),) * 6), too_many(1500))

    def test_just_1500_fillings_on_loops(self):
        # Each place has one token that goes round; the numbers of fillings multiply.
        ring = read_net("4: 0001>1000 0010>0001 0100>0010 1000>0100")
        self.assertEqual(len(all_come(ring, ((1, 0, 0, 0),) * 5)), 1024)
        self.assertEqual(raised(longest, ring, ((1, 0, 0, 0),) * 5), NOT_ENDING)
        self.assertEqual(raised(longest, ring, ((1, 0, 0, 0),) * 6), too_many(1500))
        # A token that is now in one pool, now in another, and others that vanish: 2 * 30 * 25 fillings.
        net = read_net("3: 001>000 010>100 100>010")
        self.assertEqual(len(all_come(net, ((1, 0, 29), (0, 0, 24)))), 1500)
        self.assertEqual(raised(longest, net, ((1, 0, 29), (0, 0, 24))), NOT_ENDING)
        self.assertIs(goes_on(net, ((1, 0, 29), (0, 0, 24))), True)
        self.assertEqual(raised(longest, net, ((1, 0, 29), (0, 0, 25))), too_many(1500))

    def test_not_ending_and_too_many(self):
        self.assertEqual(raised(longest, TURN, ((1, 0),)), NOT_ENDING)
        for taker in (all_come, goes_on, longest):
            self.assertEqual(raised(taker, GROW, ((1,),)), too_many(1500))
            self.assertEqual(raised(taker, SWAP_AND_GROW, ((1,), (0,))), too_many(1500))
            self.assertEqual(raised(taker, SWAP, ((9,),) * 6), too_many(1500))
        self.assertEqual(raised(longest, SWAP_AND_GROW, ((0,), (0,))), None)

    def test_lists_are_new(self):
        row = ((1,), (0,))
        first = all_come(ON, row)
        first.append(None)
        self.assertEqual(all_come(ON, row), [((0,), (1,)), ((1,), (0,))])

    def test_mirrored_rows(self):
        for net in SMALL_NETS:
            for row in small_rows(net):
                come = sorted(filling[::-1] for filling in all_come(net, row))
                self.assertEqual(all_come(mirrored(net), row[::-1]), come)

    def test_turned_rows(self):
        # These neither make tokens nor lose any, so that only finitely many fillings come either way.
        for net in (ON, TURN, SWAP, read_net("2: 10>01|01>10 20>02|00>00")):
            for row in small_rows(net):
                for filling in all_come(net, row):
                    self.assertEqual(raised(all_come, turned(net), filling), None)
                    self.assertIn(row, all_come(turned(net), filling))

    def test_renamed_rows(self):
        for net in (TURN, MIXED):
            for row in small_rows(net):
                come = sorted(tuple(place[::-1] for place in filling) for filling in all_come(net, row))
                self.assertEqual(all_come(renamed(net, (1, 0)), tuple(place[::-1] for place in row)), come)


if __name__ == "__main__":
    unittest.main()
