"""Sums that no deed changes, and pools that can be filled."""

from poolrows.checks import check_net, is_number
from poolrows.cones import level_weights
from poolrows.errors import BadPools
from poolrows.levels import place_falls, sum_of_falls


def kept_sums(net):
    """Return weights whose sum over all tokens of a row no deed changes, by their free pools."""
    check_net(net)
    many, rules = net
    return tuple(level_weights([sum_of_falls(place_falls(rule)) for rule in rules], many))


def kept_at_places(net):
    """Return weights whose sum over the tokens at each place no deed changes, by their free pools."""
    check_net(net)
    many, rules = net
    return tuple(level_weights([row for rule in rules for row in place_falls(rule)], many))


def can_fill(net, pools):
    """Return the pools that can get tokens on some row where, at first, only the given pools have some.

    On a row that is long enough all pools that can get tokens have as many as needed at as many places as needed.
    """
    check_net(net)
    many, rules = net
    if not _are_pools(pools, many):
        raise BadPools("these are no pools, ascending and none twice")
    filled = list(pools)
    for _ in range(many):
        filled = [pool for pool in range(many) if pool in filled or _can_get(rules, filled, pool)]
    return tuple(filled)


def _are_pools(value, many):
    """Return whether the value is an ascending tuple of pools, none twice."""
    if not isinstance(value, tuple) or not all([is_number(pool, 0, many - 1) for pool in value]):
        return False
    return all([value[k] < value[k + 1] for k in range(len(value) - 1)])


def _can_get(rules, filled, pool):
    """Return whether some rule that takes from filled pools only puts tokens into the pool."""
    puts_some = [rule for rule in rules if any([puts[pool] > 0 for _, puts in rule])]
    return any([_takes_only(rule, filled) for rule in puts_some])


def _takes_only(rule, filled):
    """Return whether the rule takes from filled pools only."""
    return all([taken == 0 or pool in filled for takes, _ in rule for pool, taken in enumerate(takes)])
