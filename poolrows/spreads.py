"""Spreads and lots, and what they raise."""

from poolrows.checks import are_counts


def is_spread(net, value):
    """Return whether the value is a tuple, for each rule, of numbers for its places."""
    rules = net[1]
    if not isinstance(value, tuple) or len(value) != len(rules):
        return False
    return all([are_counts(numbers, len(rule)) for numbers, rule in zip(value, rules)])


def is_lot(net, value):
    """Return whether the value is a tuple of a number for each rule, not all 0, that lowers no pool."""
    return are_counts(value, len(net[1])) and any(value) and lowers_no_pool(net, lot_spread(net, value))


def lot_spread(net, lot):
    """Return the spread that has each rule's number at all its places."""
    return tuple([(number,) * len(rule) for number, rule in zip(lot, net[1])])


def raised(net, spread):
    """Return for each pool by how much the spread raises it."""
    many, rules = net
    found = [0] * many
    for rule, numbers in zip(rules, spread):
        for (takes, puts), number in zip(rule, numbers):
            found = [sum_so_far + number * (put - taken) for sum_so_far, taken, put in zip(found, takes, puts)]
    return found


def lowers_no_pool(net, spread):
    """Return whether the spread raises each pool by at least 0."""
    return min(raised(net, spread)) >= 0


def raises_only(net, spread, pools):
    """Return whether the spread lowers no pool and raises none but these."""
    return all([amount >= 0 and (amount == 0 or pool in pools) for pool, amount in enumerate(raised(net, spread))])


def lot_gains(net, lot):
    """Return the pools that the lot raises."""
    return [pool for pool, amount in enumerate(raised(net, lot_spread(net, lot))) if amount > 0]
