"""Knots, which show that some run goes on for ever, or that something grows without bound."""

from poolrows.checks import check_net
from poolrows.climbs import bounded, ends
from poolrows.levels import EARLY, LATE
from poolrows.settling import even_step, settled, slope_step
from poolrows.spreads import is_lot, is_spread, lot_gains, raises_only


def knot(net):
    """Return a knot, None if there is none."""
    check_net(net)
    left = settled(net)[1]
    return _knot_of(net, left) if left.rules else None


def rising(net):
    """Return a knot with a gain, None if there is none."""
    check_net(net)
    left = settled(net)[1]
    return _knot_of(net, left) if left.pools else None


def shows_knot(net, value):
    """Return whether the value is a knot, or None where there is none."""
    if value is None:
        return ends(net)
    check_net(net)
    return _is_knot(net, value)


def shows_rising(net, value):
    """Return whether the value is a knot with a gain, or None where there is none."""
    if value is None:
        return bounded(net)
    check_net(net)
    return _is_knot(net, value) and len(lot_gains(net, value[0])) > 0


def _knot_of(net, left):
    """Return a knot of all rules that no levels settle; its gains are all pools that no levels settle."""
    shares = even_step(left)[1]
    lot = tuple([shares.get(at, 0) for at in range(len(net[1]))])
    firsts, lasts = [tuple([_spread(net, found) for found in slope_step(left, word)[1]]) for word in (EARLY, LATE)]
    return lot, firsts, lasts


def _spread(net, shares):
    """Return the spread with these shares of pairs (rule, place)."""
    return tuple([tuple([shares.get((at, place), 0) for place in range(len(rule))]) for at, rule in enumerate(net[1])])


def _is_knot(net, value):
    """Return whether the value is a knot."""
    if not isinstance(value, tuple) or len(value) != 3 or not is_lot(net, value[0]):
        return False
    lot, firsts, lasts = value
    return _follow(net, lot, firsts, -1) and _follow(net, lot, lasts, 1)


def _follow(net, lot, value, step):
    """Return whether the value is firsts (with the step -1) or lasts (with the step 1) that belong to the lot."""
    gains = lot_gains(net, lot)
    if not isinstance(value, tuple):
        return False
    moved = {}
    for spread in value:
        if not is_spread(net, spread) or not raises_only(net, spread, gains):
            return False
        places = _places_above_0(spread)
        if not all([_may_follow(net, pair, step, moved) for pair in places]):
            return False
        for place in places:
            moved[place] = True
    return sorted(moved) == _places_of_lot(net, lot)


def _may_follow(net, pair, step, moved):
    """Return whether the place is its rule's outermost one, or the one a step further out has moved before."""
    at, place = pair
    return place + step in (-1, len(net[1][at])) or (at, place + step) in moved


def _places_above_0(spread):
    """Return the ascending list of the pairs (rule, place) with a number above 0."""
    return [(at, place) for at, numbers in enumerate(spread) for place, number in enumerate(numbers) if number > 0]


def _places_of_lot(net, lot):
    """Return the ascending list of the pairs (rule, place) of the rules with a number above 0."""
    return [(at, place) for at, number in enumerate(lot) if number > 0 for place in range(len(net[1][at]))]
