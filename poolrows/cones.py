"""Weights that are worth at least 0 at given rows, found exactly, by integers alone.

A row is a tuple of an integer for each pool. At a row, weights are worth the sum, over all pools, of the row's number
times the weight. An edge is a pair (at, weights), of edges that belong together: the weights are worth more than 0 at
the row with the index at, and 0 at the rows of the other edges.
"""

from math import gcd, lcm


def worth(row, weights):
    """Return what the weights are worth at the row."""
    return sum([number * weight for number, weight in zip(row, weights)])


def added(numbers, others):
    """Return the sums of the numbers and the others, one by one."""
    return tuple([number + other for number, other in zip(numbers, others)])


def unit_row(pool, many):
    """Return the row at which weights are worth their weight of the pool."""
    return tuple([1 if k == pool else 0 for k in range(many)])


def level_weights(rows, many):
    """Return weights that are worth 0 at all rows and make up all such weights, by their free pools."""
    return _first_edges(rows, many)[1]


def divided(rows, many):
    """Return weights, worth at least 0 at each row and more at as many as can be, and shares that show this.

    A row's share is an integer not below 0, and above 0 just if the weights are worth 0 at the row. The sum of the
    rows, each times its share, is 0 at each pool: so whatever weights are worth at least 0 at each row, they are worth
    0 at all rows with a share above 0.
    """
    edges, _ = _first_edges(rows, many)
    weights = (0,) * many
    shares = (0,) * len(rows)
    for at in range(len(rows)):
        if worth(rows[at], weights) == 0 and shares[at] == 0:
            edges, found = _last_edges(rows, edges, at)
            if found is None:
                shares = added(shares, _shares(rows, edges, at))
            else:
                weights = added(weights, found)
    return _reduced(weights), _reduced(shares)


def _reduced(numbers):
    """Return the numbers without a common divisor."""
    common = 0
    for number in numbers:
        common = gcd(common, number)
    return tuple([number // common for number in numbers]) if common > 1 else tuple(numbers)


def _first_edges(rows, many):
    """Return edges, and the further weights, worth 0 at all rows: both together make up all weights.

    Each of the further weights is above 0 at a pool at which the others are 0, and 0 at all greater pools: weights are
    only changed by weights ahead of them.
    """
    edges = []
    further = [unit_row(pool, many) for pool in range(many)]
    for at, row in enumerate(rows):
        moved = [k for k, weights in enumerate(further) if worth(row, weights) != 0]
        if moved:
            turned = _pointed(row, further.pop(moved[0]))
            edges = _bent(row, edges, turned) + [(at, turned)]
            further = [_levelled(row, weights, turned) for weights in further]
    return edges, further


def _last_edges(rows, edges, goal):
    """Return edges, and weights worth above 0 at the goal's row and at least 0 at all, None if there are none.

    If there are none, none of the edges is worth more than 0 at the goal's row. This is the simplex method; to take
    the least index each time (Bland's rule) keeps it from turning in circles.
    """
    while True:
        rising = [edge for edge in edges if worth(rows[goal], edge[1]) > 0]
        if not rising:
            return edges, None
        left, weights = min(rising)
        below = [at for at, row in enumerate(rows) if worth(row, weights) < 0]
        if not below:
            return edges, weights
        turned = _pointed(rows[below[0]], weights)
        others = [edge for edge in edges if edge[0] != left]
        edges = _bent(rows[below[0]], others, turned) + [(below[0], turned)]


def _shares(rows, edges, goal):
    """Return shares, above 0 at the goal, for edges of which none is worth more than 0 at the goal's row."""
    common = 1
    for at, weights in edges:
        common = lcm(common, worth(rows[at], weights))
    shares = [0] * len(rows)
    shares[goal] = common
    for at, weights in edges:
        shares[at] = -worth(rows[goal], weights) * (common // worth(rows[at], weights))
    return _reduced(shares)


def _bent(row, edges, turned):
    """Return the edges with their weights levelled at the row."""
    return [(at, _levelled(row, weights, turned)) for at, weights in edges]


def _levelled(row, weights, turned):
    """Return the sum, worth 0 at the row, of multiples: above 0 of the weights, any of those turned to be above it."""
    own, step = worth(row, weights), worth(row, turned)
    return _reduced([step * weight - own * other for weight, other in zip(weights, turned)])


def _pointed(row, weights):
    """Return the weights or their negatives: what is worth more at the row."""
    return tuple([-weight for weight in weights]) if worth(row, weights) < 0 else weights
