"""What values are: integers, numbers within limits, rules and nets."""

from poolrows.errors import BadNet

MOST_POOLS = 4
MOST_RULES = 8
MOST_RULE_PLACES = 3
MOST_MOVED = 9


def is_integer(value):
    """Return whether the value is an integer."""
    # To Python, True and False are integers, too.
    return isinstance(value, int) and not isinstance(value, bool)


def is_number(value, low, high):
    """Return whether the value is an integer from low to high."""
    return is_integer(value) and low <= value <= high


def are_integers(value, many):
    """Return whether the value is a tuple of so many integers."""
    return isinstance(value, tuple) and len(value) == many and all([is_integer(item) for item in value])


def are_counts(value, many):
    """Return whether the value is a tuple of so many integers not below 0."""
    return are_integers(value, many) and all([number >= 0 for number in value])


def are_numbers(value, many, high):
    """Return whether the value is a tuple of so many integers from 0 to high."""
    return are_counts(value, many) and all([number <= high for number in value])


def is_pair(value):
    """Return whether the value is a tuple of two items."""
    return isinstance(value, tuple) and len(value) == 2


def changes_something(rule):
    """Return whether takes and puts differ at some place of the rule."""
    return any([takes != puts for takes, puts in rule])


def check_net(net):
    """Raise BadNet if the value is no net."""
    if not _has_rules(net):
        raise BadNet(None)
    many, rules = net
    for index, rule in enumerate(rules):
        if not _is_rule(rule, many) or index > 0 and rule <= rules[index - 1]:
            raise BadNet(index)


def _has_rules(value):
    """Return whether the value is a pair of a number of pools and a tuple of not too many items."""
    if not is_pair(value):
        return False
    many, rules = value
    return is_number(many, 1, MOST_POOLS) and isinstance(rules, tuple) and len(rules) <= MOST_RULES


def _is_rule(value, many):
    """Return whether the value is a rule for so many pools."""
    if not isinstance(value, tuple) or not 1 <= len(value) <= MOST_RULE_PLACES:
        return False
    return all([_is_place(place, many) for place in value]) and changes_something(value)


def _is_place(value, many):
    """Return whether the value is a pair of takes and puts for so many pools."""
    return is_pair(value) and all([are_numbers(moved, many, MOST_MOVED) for moved in value])
