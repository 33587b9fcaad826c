"""Judges written straight from the document, to hold the program's answers against."""

import itertools


def is_number(value, low=None):
    """Return whether the value is an integer, and not below low."""
    return type(value) is int and (low is None or value >= low)


def are_numbers(value, many, low=None):
    """Return whether the value is a tuple of so many integers, none below low."""
    return type(value) is tuple and len(value) == many and all(is_number(item, low) for item in value)


def fall(weights, place):
    """Return by how much a place of a rule falls."""
    takes, puts = place
    return sum(weight * (taken - put) for weight, taken, put in zip(weights, takes, puts))


def strong(word, falls):
    """Return the number that decides a rule, as a list."""
    if word == "even":
        return [sum(falls)]
    for own in falls if word == "early" else reversed(falls):
        if own != 0:
            return [own]
    return [0]


def mild(word, falls):
    """Return the sums that must not be below 0."""
    many = len(falls)
    if word == "early":
        return [sum(falls[:k + 1]) for k in range(many)]
    if word == "late":
        return [sum(falls[many - k - 1:]) for k in range(many)]
    return [sum(falls)]


def left_by(net, value, judge):
    """Return the rules and the pools that levels leave, None if the value is no levels or some may not stand."""
    many, rules = net
    if type(value) is not tuple:
        return None
    left_rules, left_pools = set(range(len(rules))), set(range(many))
    for level in value:
        if type(level) is not tuple or len(level) != 2 or type(level[0]) is not str:
            return None
        word, weights = level
        if word not in ("early", "even", "late") or not are_numbers(weights, many):
            return None
        sums = {at: judge(word, [fall(weights, place) for place in rules[at]]) for at in left_rules}
        if any(weights[pool] < 0 for pool in left_pools) or any(number < 0 for own in sums.values() for number in own):
            return None
        left_rules = {at for at in left_rules if all(number == 0 for number in sums[at])}
        left_pools = {pool for pool in left_pools if weights[pool] == 0}
    return left_rules, left_pools


def is_falling(net, value, judge=strong):
    """Return whether the value is levels that settle all rules."""
    left = left_by(net, value, judge)
    return left is not None and left[0] == set()


def is_holding(net, value, judge=strong):
    """Return whether the value is levels that settle all pools."""
    left = left_by(net, value, judge)
    return left is not None and left[1] == set()


def slopes(levels):
    """Return how many slopes there are."""
    return len([word for word, _ in levels if word in ("early", "late")])


def raises(net, spread):
    """Return by how much a spread raises each pool."""
    many, rules = net
    return [
        sum(number * (puts[pool] - takes[pool])
            for rule, numbers in zip(rules, spread) for (takes, puts), number in zip(rule, numbers))
        for pool in range(many)]


def lot_raises(net, lot):
    """Return by how much the spread raises each pool that has each rule's number at all its places."""
    return raises(net, [[number] * len(rule) for number, rule in zip(lot, net[1])])


def gains(net, lot):
    """Return the pools that a lot raises."""
    return {pool for pool, amount in enumerate(lot_raises(net, lot)) if amount > 0}


def is_lot(net, value):
    """Return whether the value is a lot."""
    return are_numbers(value, len(net[1]), 0) and set(value) - {0} != set() and min(lot_raises(net, value)) >= 0


def is_spread(net, value):
    """Return whether the value is a spread."""
    return type(value) is tuple and len(value) == len(net[1]) and all(
        are_numbers(numbers, len(rule), 0) for numbers, rule in zip(value, net[1]))


def raises_no_others(net, spread, pools):
    """Return whether the spread lowers no pool and raises only these."""
    return all(amount == 0 or amount > 0 and pool in pools for pool, amount in enumerate(raises(net, spread)))


def places_of(spread):
    """Return the places of rules with a number above 0."""
    return {(at, place) for at, numbers in enumerate(spread) for place, number in enumerate(numbers) if number > 0}


def are_in_turn(net, value, lot, step):
    """Return whether the value is a tuple of spreads as a knot asks, each place behind the one at the step."""
    if type(value) is not tuple or not all(is_spread(net, spread) for spread in value):
        return False
    asked = {(at, place) for at, number in enumerate(lot) if number > 0 for place in range(len(net[1][at]))}
    places = [places_of(spread) for spread in value]
    for turn, own in enumerate(places):
        earlier = set().union(*places[:turn])
        for at, place in own:
            outer = place + step
            if 0 <= outer < len(net[1][at]) and (at, outer) not in earlier:
                return False
    return set().union(*places) == asked and all(raises_no_others(net, spread, gains(net, lot)) for spread in value)


def is_knot(net, value):
    """Return whether the value is a knot."""
    if type(value) is not tuple or len(value) != 3 or not is_lot(net, value[0]):
        return False
    lot, firsts, lasts = value
    return are_in_turn(net, firsts, lot, -1) and are_in_turn(net, lasts, lot, 1)


def is_rising(net, value):
    """Return whether the value is a knot with a gain."""
    return is_knot(net, value) and gains(net, value[0]) != set()


def is_ladder(net, value):
    """Return whether the value is a ladder."""
    if type(value) is not tuple:
        return False
    if value == ():
        return True
    if len(value) % 2 == 0 or not all(is_lot(net, lot) for lot in value[::2]):
        return False
    for ahead, spread, behind in zip(value[::2], value[1::2], value[2::2]):
        if not is_spread(net, spread) or not raises_no_others(net, spread, gains(net, ahead)):
            return False
        if not gains(net, behind) <= gains(net, ahead):
            return False
        for number, numbers, further in zip(ahead, spread, behind):
            if list(numbers) != sorted(numbers) or number == 0 and set(numbers) != {0}:
                return False
            if further > 0 and (number == 0 or numbers[0] == 0 or len(set(numbers)) < len(numbers)):
                return False
    return True


def lots(ladder):
    """Return how many lots a ladder has."""
    return (len(ladder) + 1) // 2


def left_by_small_weights(net, judge, most):
    """Return for each pair (rules, pools) that levels with weights up to most may leave the least number of slopes."""
    many, rules = net
    weights = list(itertools.product(range(-most, most + 1), repeat=many))
    falls = {own: [[fall(own, place) for place in rule] for rule in rules] for own in weights}
    start = (frozenset(range(len(rules))), frozenset(range(many)))
    least = {start: 0}
    waiting = [start]
    while waiting:
        left_rules, left_pools = waiting.pop()
        for own, word in itertools.product(weights, ("early", "even", "late")):
            sums = {at: judge(word, falls[own][at]) for at in left_rules}
            if all(own[pool] >= 0 for pool in left_pools) and all(min(numbers) >= 0 for numbers in sums.values()):
                left = (frozenset(at for at in left_rules if max(sums[at]) == 0),
                        frozenset(pool for pool in left_pools if own[pool] == 0))
                many_slopes = least[left_rules, left_pools] + (word != "even")
                if many_slopes < least.get(left, 99):
                    least[left] = many_slopes
                    waiting.append(left)
    return least
