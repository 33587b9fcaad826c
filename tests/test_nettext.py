"""Nets as texts."""

import itertools
import unittest

from poolrows.nets import mirrored
from poolrows.nettext import read_net, write_net
from tests.helpers import NOT_TEXT, invalid_text, raised, unchanged

PLACES = [((takes,), (puts,)) for takes in (0, 3) for puts in (0, 9)]
RULES = [
    rule for many in (1, 2, 3) for rule in itertools.product(PLACES, repeat=many)
    if any(takes != puts for takes, puts in rule)
]

# Texts that name no net, with the place that is told.
WRONG_TEXTS = [
    # The number of pools and the colon.
    ("", 0), ("   ", 3), ("1", 1), (" 4", 2), ("0:", 0), ("5:", 0), ("9: 1>0", 0), ("a:", 0), (":", 0), (" :", 1),
    ("-1:", 0), ("+1:", 0), ("12:", 1), ("1 :", 1), ("1;", 1), ("1>", 1), ("1|", 1), ("\t1:", 0), ("\n1:", 0),
    ("\u0661:", 0), ("\u00b9:", 0), ("\u00a01:", 0),
    # The first character of a rule.
    ("1:a", 2), ("1: a", 3), ("1::", 2), ("1:>", 2), ("1: |", 3), ("1:\t1>0", 2), ("1: 1>0\n", 6),
    ("1: 1>0\t2>0", 6), ("1:\n", 2), ("1: -1>0", 3), ("1: \u06611>0", 3), ("1: \u00b2>0", 3),
    # Within places.
    ("1: 1 >0", 4), ("1: 1:0", 4), ("1: 1|0", 4), ("1: 11>0", 4), ("1: 1> 0", 5), ("1: 1>>", 5), ("1: 1>|", 5),
    ("1: 1>\u0661", 5), ("2: 1>0", 4), ("2: 10>0 ", 7), ("2: 10>0|", 7), ("2: 10>011", 8), ("3: 100>01", 9),
    ("4: 10x0>0000", 5), ("4: 1000>00x0", 10), ("4: 10000>0000", 7), ("1: 1>-1", 5),
    # Behind a place.
    ("1: 1>01", 6), ("1: 1>0>1", 6), ("1: 1>0:", 6), ("1: 1>0,2>0", 6), ("1: 1>0x", 6), ("1: 1>02>0", 6),
    ("1: 1>0||1>0", 7), ("1: 1>0| 1>0", 7), ("1: 1>0 |1>0", 7), ("1: 1>0|x", 7), ("1: 1>0|1>x", 9),
    ("1: 1>0 :", 7), ("1: 1>0 2:", 8),
    # Behind a third place.
    ("1: 1>0|1>0|1>0|", 14), ("1: 1>0|1>0|1>0|1>0", 14), ("1: 1>0|1>0|1>0x", 14), ("1: 1>0|1>0|1>00", 14),
    ("1: 1>1|1>1|1>1|", 14), ("1: 1>0|1>0|1>0|x", 14),
    # Ends too soon.
    ("1: 1", 4), ("1: 1>", 5), ("1: 1>0|", 7), ("1: 1>0|1", 8), ("1: 1>0|1>", 9), ("2: 1", 4), ("2: 10", 5),
    ("2: 10>", 6), ("2: 10>0", 7), ("4: 1000>000", 11), ("1: 1>0 2", 8), ("1: 1>1|", 7), ("1: 1>0|1>0|", 11),
    # Rules whose takes and puts are all the same.
    ("1: 1>1", 3), ("1:1>1", 2), ("1:   1>1 ", 5), ("1: 0>0|1>1", 3), ("1: 0>0|1>1|2>2", 3), ("1: 1>0 2>2", 7),
    ("1: 1>0  2>2", 8), ("4: 1234>1234", 3), ("1: 1>1 x", 3), ("1: 1>1 1>1", 3), ("1: 2>2 1>0", 3),
    # Whole rules that may not stand, and behind them a character that can't, either: the rule's own is the first.
    ("1: 1>1x", 3), ("1: 1>11", 3), ("1: 1>1>", 3), ("1: 1>1:1>0", 3), ("1: 1>0 1>0x", 7), ("1: 2>0 1>0:", 7),
    ("1: 2>0  1>0\t", 8), ("1: 1>1|1>1x", 3), ("1: 1>1|1>1|2>2x", 3), ("1: 0>1 0>1|0>0 0>1|0>0,", 15),
    ("2: 10>100", 3), ("4: 1234>1234:", 3),
    # What is no whole rule, for "|" goes on with it: its own first character that can't stand.
    ("1: 1>1|x", 7), ("1: 2>0 1>0||", 11), ("1: 1>1|1>1|1>1|x", 14), ("1: 2>0 1>0|0>0|0>0|", 18),
    ("1: 2>0 1>x", 9), ("1: 1>1|1:", 8),
    # Rules that are not greater than the one before.
    ("1: 1>0 1>0", 7), ("1: 2>0 1>0", 7), ("1: 2>0   1>0", 9), ("1: 1>2|0>0 1>2", 11), ("1: 1>3 1>2|0>0", 7),
    ("1: 1>0 2>0 3>0 2>0 x", 15), ("2: 10>01 01>10", 9), ("1: 2>0 1>0|", 11), ("1: 2>0 1", 8),
]

EIGHT = "1: 0>1 0>2 0>3 0>4 0>5 0>6 0>7 0>8"


class WriteTest(unittest.TestCase):
    def test_texts(self):
        self.assertEqual(write_net((2, ((((0, 1), (1, 0)), ((1, 0), (0, 0))), (((1, 1), (2, 2)),)))),
                         "2: 01>10|10>00 11>22")
        self.assertEqual([write_net((many, ())) for many in (1, 2, 3, 4)], ["1:", "2:", "3:", "4:"])
        self.assertEqual(write_net((4, ((((1, 2, 3, 4), (9, 8, 7, 6)),),))), "4: 1234>9876")
        self.assertEqual(write_net((1, ((((0,), (0,)), ((1,), (1,)), ((2,), (3,))),))), "1: 0>0|1>1|2>3")


class ReadTest(unittest.TestCase):
    def test_texts_lead_back(self):
        for rule in RULES:
            self.assertEqual(read_net(write_net((1, (rule,)))), (1, (rule,)))
        for rules in itertools.combinations(sorted(RULES)[::5], 2):
            self.assertEqual(read_net(write_net((1, rules))), (1, rules))
        for text in ("2: 01>10|10>00 11>22", "3:", "4: 0000>0001|9999>9999|1000>0000", EIGHT):
            self.assertEqual(write_net(read_net(text)), text)

    def test_spaces(self):
        net = (1, ((((1,), (0,)),), (((2,), (0,)), ((0,), (1,)))))
        texts = [
            "1: 1>0 2>0|0>1", "1:1>0 2>0|0>1", "   1:1>0 2>0|0>1", "1:1>0 2>0|0>1   ", "1:    1>0     2>0|0>1",
            "  1:  1>0  2>0|0>1  ",
        ]
        for text in texts:
            self.assertEqual(read_net(text), net, text)
        for text in ("2:", " 2:", "2: ", "   2:   "):
            self.assertEqual(read_net(text), (2, ()), text)

    def test_one_to_four_pools_and_three_places(self):
        self.assertEqual(read_net("4: 0123>4567|8901>2345|6789>0123"), (4, ((
            ((0, 1, 2, 3), (4, 5, 6, 7)), ((8, 9, 0, 1), (2, 3, 4, 5)), ((6, 7, 8, 9), (0, 1, 2, 3))),)))
        self.assertEqual([read_net(f"{many}:") for many in (1, 2, 3, 4)], [(many, ()) for many in (1, 2, 3, 4)])

    def test_wrong_texts(self):
        for text, place in WRONG_TEXTS:
            self.assertEqual(raised(read_net, text), invalid_text(place), text)

    def test_spaces_ahead_move_the_place(self):
        for text, place in WRONG_TEXTS:
            self.assertEqual(raised(read_net, "  " + text), invalid_text(place + 2), text)

    def test_eight_rules_and_a_ninth(self):
        self.assertEqual(len(read_net(EIGHT)[1]), 8)
        self.assertEqual(len(read_net(EIGHT + "  ")[1]), 8)
        end = len(EIGHT)
        for ninth in (" 0>9", " 0>9 x", " 0>9|1>0 ", " 0>1", " 1>1", " 0>9 1>0"):
            self.assertEqual(raised(read_net, EIGHT + ninth), invalid_text(end + 1), ninth)
        self.assertEqual(raised(read_net, EIGHT + "   0>9"), invalid_text(end + 3))
        for ninth in (" 0>9x", " 0>99", " 1>1:", " 0>1>", " 0>9|1>0|1>0x"):
            self.assertEqual(raised(read_net, EIGHT + ninth), invalid_text(end + 1), ninth)
        wrong = [
            (" x", 1), (" 0x", 2), (" 0>9|", 5), (" 0>9|x", 5), (" 0>9|1>0|1>0|", 12), (" 0", 2), (" 0>", 3),
        ]
        for ninth, place in wrong:
            self.assertEqual(raised(read_net, EIGHT + ninth), invalid_text(end + place), ninth)

    def test_each_text_that_is_cut_off_ends_too_soon_or_names_a_net(self):
        text = "2: 01>10|10>00|00>01 11>22 12>00"
        nets = ("2:", "2: ", "2: 01>10", "2: 01>10|10>00", text[:20], text[:21], text[:26], text[:27])
        for end in range(len(text)):
            expected = None if text[:end] in nets else invalid_text(end)
            self.assertEqual(raised(read_net, text[:end]), expected, text[:end])

    def test_not_text(self):
        for value in (0, 1, -5, True, False, None, (), ("1:",), ["1:"], [], {}, {"1:": 1}, (1, ())):
            self.assertEqual(raised(read_net, value), NOT_TEXT, value)
            self.assertTrue(unchanged(read_net, value))

    def test_what_is_read_is_a_net(self):
        for text in ("1:", "2: 01>10|10>00 11>22", EIGHT):
            self.assertEqual(mirrored(mirrored(read_net(text))), read_net(text))


if __name__ == "__main__":
    unittest.main()
