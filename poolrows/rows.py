"""Rows of places with tokens: deeds, runs, and all that comes behind them."""

from itertools import combinations

from poolrows.checks import are_numbers, check_net, is_number, is_pair
from poolrows.errors import BadDeed, BadRow, BadRun, NotEnding, TooMany

MOST_ROW_PLACES = 6
MOST_TOKENS = 99
MOST_DEEDS = 200
MOST_FILLINGS = 1500


def deeds(net, row):
    """Return the ascending tuple of all deeds that can be done."""
    _check_row(net, row)
    return tuple(_possible_deeds(net[1], row))


def done(net, row, deed):
    """Return the filling behind the deed."""
    _check_row(net, row)
    rules = net[1]
    if not _is_deed(rules, row, deed) or not _can_be_done(rules, row, deed):
        raise BadDeed("this is no deed that can be done")
    return _filling_behind(rules, row, deed)


def after(net, row, run):
    """Return the filling behind the run."""
    _check_row(net, row)
    rules = net[1]
    if not _has_deeds(rules, row, run):
        raise BadRun(None)
    filling = row
    for index, deed in enumerate(run):
        if not _can_be_done(rules, filling, deed):
            raise BadRun(index)
        filling = _filling_behind(rules, filling, deed)
    return filling


def all_come(net, row):
    """Return the ascending list of all fillings that come behind runs."""
    _check_row(net, row)
    return sorted(_walked(net[1], row))


def goes_on(net, row):
    """Return whether some run goes on for ever."""
    _check_row(net, row)
    return _most_deeds(_walked(net[1], row), row) is None


def longest(net, row):
    """Return how many deeds a run makes at most."""
    _check_row(net, row)
    most = _most_deeds(_walked(net[1], row), row)
    if most is None:
        raise NotEnding("some run goes on for ever")
    return most


def _check_row(net, row):
    """Raise BadNet if the one is no net, BadRow if the other is no filling for it."""
    check_net(net)
    if not isinstance(row, tuple) or not 1 <= len(row) <= MOST_ROW_PLACES:
        raise BadRow(None)
    for index, place in enumerate(row):
        if not are_numbers(place, net[0], MOST_TOKENS):
            raise BadRow(index)


def _has_deeds(rules, row, value):
    """Return whether the value is a tuple of not too many deeds of the row."""
    if not isinstance(value, tuple) or len(value) > MOST_DEEDS:
        return False
    return all([_is_deed(rules, row, deed) for deed in value])


def _is_deed(rules, row, value):
    """Return whether the value is a deed of the row, be it one that can be done or not."""
    if not is_pair(value):
        return False
    at, spots = value
    if not is_number(at, 0, len(rules) - 1) or not are_numbers(spots, len(rules[at]), len(row) - 1):
        return False
    return all([spots[k] < spots[k + 1] for k in range(len(spots) - 1)])


def _possible_deeds(rules, row):
    """Return the ascending list of all deeds that can be done."""
    found = []
    for at, rule in enumerate(rules):
        for spots in combinations(range(len(row)), len(rule)):
            if _can_be_done(rules, row, (at, spots)):
                found.append((at, spots))
    return found


def _can_be_done(rules, row, deed):
    """Return whether each pool has the tokens that the deed takes there."""
    at, spots = deed
    for spot, (takes, _) in zip(spots, rules[at]):
        for tokens, taken in zip(row[spot], takes):
            if tokens < taken:
                return False
    return True


def _filling_behind(rules, row, deed):
    """Return the filling behind a deed that can be done."""
    at, spots = deed
    places = list(row)
    for spot, (takes, puts) in zip(spots, rules[at]):
        places[spot] = tuple([tokens - taken + put for tokens, taken, put in zip(row[spot], takes, puts)])
    return tuple(places)


def _walked(rules, row):
    """Return for each filling that comes the list of the fillings one deed behind it."""
    steps = {}
    found = {row: True}
    left = [row]
    while left:
        filling = left.pop()
        steps[filling] = _fillings_behind(rules, filling)
        for further in steps[filling]:
            if further not in found:
                found[further] = True
                left.append(further)
        if len(found) > MOST_FILLINGS:
            raise TooMany(MOST_FILLINGS)
    return steps


def _fillings_behind(rules, row):
    """Return the fillings one deed behind the row, none twice."""
    found = {}
    for deed in _possible_deeds(rules, row):
        found[_filling_behind(rules, row, deed)] = True
    return list(found)


def _most_deeds(steps, row):
    """Return how many deeds a run from the row makes at most, None if one goes on for ever.

    A filling is passed when all those have been that it is one deed behind: on a loop none is.
    """
    waiting = _ways_into(steps)
    most = {filling: 0 for filling in steps}
    ready = [row] if waiting[row] == 0 else []
    passed = 0
    while ready:
        filling = ready.pop()
        passed += 1
        for further in steps[filling]:
            most[further] = max(most[further], most[filling] + 1)
            waiting[further] -= 1
            if waiting[further] == 0:
                ready.append(further)
    return max(most.values()) if passed == len(steps) else None


def _ways_into(steps):
    """Return for each filling how many fillings it is one deed behind."""
    ways = {filling: 0 for filling in steps}
    for behind in steps.values():
        for filling in behind:
            ways[filling] += 1
    return ways
