"""Whether all runs end on all rows, and whether nothing grows without bound, with levels that show it."""

from poolrows.checks import check_net
from poolrows.levels import has_no_pools, has_no_rules, left_behind_all
from poolrows.settling import deciding_number, settled


def ends(net):
    """Return whether on no row a run goes on for ever."""
    return falling(net) is not None


def bounded(net):
    """Return whether on each row from each filling only finitely many fillings come."""
    return holding(net) is not None


def falling(net):
    """Return levels that settle all rules, None if none do."""
    check_net(net)
    return _levels_to(net, has_no_rules)


def holding(net):
    """Return levels that settle all pools, None if none do."""
    check_net(net)
    return _levels_to(net, has_no_pools)


def shows_falling(net, value):
    """Return whether the value is levels that settle all rules, or None where none do."""
    check_net(net)
    return _shows(net, value, has_no_rules)


def shows_holding(net, value):
    """Return whether the value is levels that settle all pools, or None where none do."""
    check_net(net)
    return _shows(net, value, has_no_pools)


def _levels_to(net, aim):
    """Return levels that reach the aim, None if none do."""
    levels, left = settled(net)
    return levels if aim(left) else None


def _shows(net, value, aim):
    """Return whether the value is levels that reach the aim, or None where none do."""
    if value is None:
        return _levels_to(net, aim) is None
    left = left_behind_all(net, value, deciding_number)
    return left is not None and aim(left)
