"""Levels that settle as much as can be, and what shows that none settle more.

For each word there are weights that settle all that any weights with this word settle: the sum of weights that may
stand settles what one of them settles. What is settled sooner only frees what follows, so it is never wrong to settle.
"""

from poolrows.cones import divided, unit_row
from poolrows.levels import EARLY, EVEN, LATE, WORDS, all_left, how_many_left, left_behind, sum_of_falls


def deciding_number(word, falls):
    """Return, in a list, the number that decides a rule whose places fall by so much."""
    if word == EVEN:
        return [sum(falls)]
    moved = [fall for fall in falls if fall != 0]
    if not moved:
        return [0]
    return [moved[0] if word == EARLY else moved[-1]]


def shares_of_rows(left, rows):
    """Return weights not below 0 at the pools that are left, and shares of the rows, a dict, as they are divided."""
    ahead = [unit_row(pool, left.many) for pool in left.pools]
    weights, shares = divided(ahead + list(rows.values()), left.many)
    return weights, dict(zip(rows, shares[len(ahead):]))


def even_step(left):
    """Return weights for "even", and the shares of the rules, above 0 for those that it leaves."""
    return shares_of_rows(left, {at: sum_of_falls(falls) for at, falls in left.rules.items()})


def slope_step(left, word):
    """Return weights for "early" or "late", and a list of shares of pairs (rule, place).

    A place counts when all places ahead of it (for "late": behind it) must fall by 0, which their shares, found before,
    show. The weights belong to the last shares.
    """
    order = {at: _places_in_order(len(falls), word) for at, falls in left.rules.items()}
    opened = {at: 1 for at in order}
    found = []
    while True:
        pairs = [(at, place) for at in order for place in order[at][:opened[at]]]
        weights, shares = shares_of_rows(left, {(at, place): left.rules[at][place] for at, place in pairs})
        found.append(shares)
        further = [at for at in order if opened[at] < len(order[at]) and shares[at, order[at][opened[at] - 1]] > 0]
        if not further:
            return weights, found
        for rule in further:
            opened[rule] += 1


def settled(net):
    """Return levels that settle all that any levels settle, and what they leave."""
    levels = []
    left = all_left(net)
    before = how_many_left(left) + 1
    while how_many_left(left) < before:
        before = how_many_left(left)
        for word in WORDS:
            level = (word, _step_weights(left, word))
            behind = left_behind(left, level, deciding_number)
            if how_many_left(behind) < how_many_left(left):
                levels.append(level)
                left = behind
    return tuple(levels), left


def _places_in_order(many, word):
    """Return the places of a rule in the order in which the word asks for them."""
    return list(range(many)) if word != LATE else list(range(many))[::-1]


def _step_weights(left, word):
    """Return weights that settle all that any weights with the word settle."""
    return even_step(left)[0] if word == EVEN else slope_step(left, word)[0]
