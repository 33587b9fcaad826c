"""Levels, and what they leave of a net."""

from poolrows.checks import are_integers, is_pair
from poolrows.cones import worth

EARLY = "early"
EVEN = "even"
LATE = "late"
WORDS = ("early", "even", "late")


class Left:
    """What is left of a net: its rules, by their indexes, each as the falls of its places, and pools."""

    def __init__(self, many, rules, pools):
        self.many = many
        self.rules = rules
        self.pools = pools


def place_falls(rule):
    """Return for each place of the rule the row at which weights are worth by how much it falls."""
    return [tuple([taken - put for taken, put in zip(takes, puts)]) for takes, puts in rule]


def sum_of_falls(falls):
    """Return the row at which weights are worth the sum of the falls."""
    return tuple([sum(numbers) for numbers in zip(*falls)])


def all_left(net):
    """Return what is left at first: all."""
    many, rules = net
    return Left(many, {at: place_falls(rule) for at, rule in enumerate(rules)}, list(range(many)))


def left_behind(left, level, judge):
    """Return what is left behind the level, None if it may not stand there.

    The judge is a function: for the level's word and the list of how much each place of a rule falls it returns the
    numbers that must not be below 0, and of which one above 0 settles the rule.
    """
    word, weights = level
    numbers = {at: judge(word, [worth(row, weights) for row in falls]) for at, falls in left.rules.items()}
    if min([weights[pool] for pool in left.pools] + [min(own) for own in numbers.values()], default=0) < 0:
        return None
    rules = {at: falls for at, falls in left.rules.items() if max(numbers[at]) == 0}
    return Left(left.many, rules, [pool for pool in left.pools if weights[pool] == 0])


def left_behind_all(net, value, judge):
    """Return what is left behind all levels, None if the value is no levels or one may not stand there."""
    if not isinstance(value, tuple):
        return None
    left = all_left(net)
    for level in value:
        if left is not None:
            left = left_behind(left, level, judge) if _is_level(level, left.many) else None
    return left


def how_many_left(left):
    """Return how many rules and pools are left."""
    return len(left.rules) + len(left.pools)


def has_no_rules(left):
    """Return whether no rules are left."""
    return len(left.rules) == 0


def has_no_pools(left):
    """Return whether no pools are left."""
    return len(left.pools) == 0


def _is_level(value, many):
    """Return whether the value is a pair of a word and weights."""
    return is_pair(value) and value[0] in WORDS and are_integers(value[1], many)
