"""Nets made of other nets."""

from poolrows.checks import MOST_RULES, are_numbers, check_net
from poolrows.errors import BadOrder, TooMany


def renamed(net, order):
    """Return the net in which the pool order[k] stands for each pool k."""
    check_net(net)
    many, rules = net
    if not _is_order(order, many):
        raise BadOrder("the order does not name all pools, each once")
    sources = [order.index(pool) for pool in range(many)]
    return many, _in_order([_renamed_rule(rule, sources) for rule in rules])


def mirrored(net):
    """Return the net with the places of all rules in the other order."""
    check_net(net)
    many, rules = net
    return many, _in_order([rule[::-1] for rule in rules])


def turned(net):
    """Return the net in which takes and puts have changed places."""
    check_net(net)
    many, rules = net
    return many, _in_order([tuple([(puts, takes) for takes, puts in rule]) for rule in rules])


def joined(net, other):
    """Return the net with the rules of both nets, and as many pools as the one that has more."""
    check_net(net)
    check_net(other)
    many = max(net[0], other[0])
    rules = sorted(set(_widened_rules(net, many) + _widened_rules(other, many)))
    if len(rules) > MOST_RULES:
        raise TooMany(MOST_RULES)
    return many, tuple(rules)


def _is_order(value, many):
    """Return whether the value is a tuple of all of so many pools, each once."""
    return are_numbers(value, many, many - 1) and sorted(value) == list(range(many))


def _in_order(rules):
    """Return the rules as a net has them: a changed rule may belong elsewhere among the others."""
    return tuple(sorted(rules))


def _renamed_rule(rule, sources):
    """Return the rule that has at each pool what this one has at the pool's source."""
    return tuple([(_picked(takes, sources), _picked(puts, sources)) for takes, puts in rule])


def _picked(moved, sources):
    """Return the numbers at the sources."""
    return tuple([moved[source] for source in sources])


def _widened_rules(net, many):
    """Return the net's rules for so many pools; they take and put nothing at the further ones."""
    further = (0,) * (many - net[0])
    return [tuple([(takes + further, puts + further) for takes, puts in rule]) for rule in net[1]]
