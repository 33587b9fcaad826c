"""How long the runs of long rows are, and how many tokens come, with levels and ladders that show it."""

from itertools import accumulate

from poolrows.checks import check_net
from poolrows.levels import EARLY, EVEN, LATE, all_left, has_no_pools, has_no_rules, how_many_left
from poolrows.levels import left_behind, left_behind_all, sum_of_falls
from poolrows.settling import even_step, shares_of_rows
from poolrows.spreads import is_lot, is_spread, lot_gains, raises_only


def run_degree(net):
    """Return the power of n with which the longest runs grow on rows of n places, None without one."""
    check_net(net)
    if not net[1]:
        return 0
    return _degree(_stages_until(net, has_no_rules))


def token_degree(net):
    """Return the power of n with which the tokens grow on rows of n places, None without one."""
    check_net(net)
    return _degree(_stages_until(net, has_no_pools))


def run_levels(net):
    """Return mild levels with as few slopes as can be that settle all rules, None if none do."""
    check_net(net)
    return _last_levels(_stages_until(net, has_no_rules))


def token_levels(net):
    """Return mild levels with as few slopes as can be that settle all pools, None if none do."""
    check_net(net)
    return _last_levels(_stages_until(net, has_no_pools))


def shows_run_levels(net, value):
    """Return whether the value is what run_levels may return."""
    check_net(net)
    return _shows_levels(net, value, has_no_rules)


def shows_token_levels(net, value):
    """Return whether the value is what token_levels may return."""
    check_net(net)
    return _shows_levels(net, value, has_no_pools)


def run_ladder(net):
    """Return a ladder with one lot less than the run degree, None for a net without the degree."""
    check_net(net)
    return _ladder(net, _stages_until(net, has_no_rules))


def token_ladder(net):
    """Return a ladder with one lot less than the token degree, the last raising a pool, None without the degree."""
    check_net(net)
    return _ladder(net, _stages_until(net, has_no_pools))


def shows_run_ladder(net, value):
    """Return whether the value is what run_ladder may return."""
    check_net(net)
    return _shows_ladder(net, value, _stages_until(net, has_no_rules))


def shows_token_ladder(net, value):
    """Return whether the value is what token_ladder may return."""
    check_net(net)
    if not _shows_ladder(net, value, _stages_until(net, has_no_pools)):
        return False
    return value is None or len(value) == 0 or len(lot_gains(net, value[-1])) > 0


def _degree(stages):
    """Return one more than the number of slopes of the last stage, None without stages."""
    return None if stages is None else len(stages)


def _last_levels(stages):
    """Return the levels of the last stage, None without stages."""
    return None if stages is None else stages[-1][0]


def _shows_levels(net, value, aim):
    """Return whether the value is mild levels with as few slopes as can be that reach the aim, or None if none do."""
    stages = _stages_until(net, aim)
    if stages is None:
        return value is None
    left = left_behind_all(net, value, _sums_of_falls)
    return left is not None and aim(left) and _count_slopes(value) == len(stages) - 1


def _shows_ladder(net, value, stages):
    """Return whether the value is a ladder with one lot for each stage but the last, or None without stages."""
    if stages is None:
        return value is None
    return _is_ladder(net, value, len(stages) - 1)


def _sums_of_falls(word, falls):
    """Return the sums that must not be below 0 for a rule whose places fall by so much."""
    if word == EVEN:
        return [sum(falls)]
    in_order = falls if word == EARLY else falls[::-1]
    return list(accumulate(in_order))


def _stages_until(net, aim):
    """Return the stages of a net, up to the first one that reaches the aim, None if none does.

    A stage is a pair (levels, what they leave): with as many slopes as the stage's index, the levels settle all that
    can be settled. All slopes are "late": behind "even" levels that settle all they can, "early" settles the same. For
    what keeps a rule left there is a spread whose numbers rise from place to place, and what is left has a lot; a great
    multiple of the lot less the spread is a spread whose numbers fall, and the other way round.
    """
    stages = [_evened((), all_left(net))]
    while not aim(stages[-1][1]):
        levels, left = stages[-1]
        level = (LATE, _late_step(left)[0])
        behind = left_behind(left, level, _sums_of_falls)
        if how_many_left(behind) == how_many_left(left):
            return None
        stages.append(_evened(levels + (level,), behind))
    return stages


def _evened(levels, left):
    """Return the levels with "even" ones behind them that settle all that such can, and what is left then."""
    while True:
        level = (EVEN, even_step(left)[0])
        behind = left_behind(left, level, _sums_of_falls)
        if how_many_left(behind) == how_many_left(left):
            return levels, left
        levels, left = levels + (level,), behind


def _late_step(left):
    """Return weights for "late" that settle all that any do, and shares of the sums from each place to the last."""
    rows = {}
    for at, falls in left.rules.items():
        for place in range(len(falls)):
            rows[at, place] = sum_of_falls(falls[place:])
    return shares_of_rows(left, rows)


def _count_slopes(levels):
    """Return how many of the levels are slopes."""
    return len([word for word, _ in levels if word != EVEN])


def _ladder(net, stages):
    """Return the ladder with a lot of all that is left at each stage but the last, None without stages."""
    if stages is None:
        return None
    parts = []
    for _, left in stages[:-1]:
        parts.append(_lot(net, even_step(left)[1]))
        parts.append(_rising_spread(net, _late_step(left)[1]))
    return tuple(parts[:-1])


def _lot(net, shares):
    """Return the lot with these shares of rules."""
    return tuple([shares.get(at, 0) for at in range(len(net[1]))])


def _rising_spread(net, shares):
    """Return the spread that has, at each place, the shares of all sums that count it: those from it or before it."""
    found = []
    for at, rule in enumerate(net[1]):
        found.append(tuple(accumulate([shares.get((at, place), 0) for place in range(len(rule))])))
    return tuple(found)


def _is_ladder(net, value, lots):
    """Return whether the value is a ladder with so many lots."""
    if not isinstance(value, tuple) or len(value) != max(0, 2 * lots - 1):
        return False
    if not all([is_lot(net, lot) for lot in value[::2]]):
        return False
    return all([_is_step(net, value[at - 1:at + 2]) for at in range(1, len(value), 2)])


def _is_step(net, parts):
    """Return whether the spread of the parts (lot, spread, lot) may stand behind the one lot and ahead of the other."""
    lot, spread, further = parts
    gains = lot_gains(net, lot)
    if not is_spread(net, spread) or not raises_only(net, spread, gains):
        return False
    if not all([pool in gains for pool in lot_gains(net, further)]):
        return False
    return all([_may_rise(number, numbers, next_number) for number, numbers, next_number in zip(lot, spread, further)])


def _may_rise(number, numbers, further):
    """Return whether a rule with the number in a lot may have the numbers behind it, and further in the next lot."""
    if number == 0:
        return max(numbers) == 0 and further == 0
    steps = [numbers[k + 1] - numbers[k] for k in range(len(numbers) - 1)]
    if further == 0:
        return min(steps, default=0) >= 0
    return numbers[0] > 0 and min(steps, default=1) > 0
