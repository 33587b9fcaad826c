"""What several tests use."""

import copy
import itertools

# Values of every kind that are no net, no row, no deed, no run, no order and no text that names a net.
WRONG = [
    0, 1, 2, -1, 10 ** 40, "", "a", "1", True, False, None, [], [1], [()], {}, {1: ()}, {"a": [1]},
    (None,), ("1",), ([],), ({},), (True,), (1, 2), (1, [2], "3"), ((1, 2), 3), ((((),),),),
    "1: 1>1", ((None, None),), (False, None, True, (), [], {}),
]


def raised(call, *values):
    """Return the name and the fields of the error that the call raises, None without one."""
    try:
        call(*values)
    except ValueError as error:
        return type(error).__name__, vars(error)
    return None


def bad_net(index):
    return "BadNet", {"index": index}


def bad_row(index):
    return "BadRow", {"index": index}


def bad_run(index):
    return "BadRun", {"index": index}


def invalid_text(place):
    return "InvalidText", {"place": place}


def too_many(most):
    return "TooMany", {"most": most}


BAD_DEED = ("BadDeed", {})
BAD_ORDER = ("BadOrder", {})
BAD_POOLS = ("BadPools", {})
NOT_ENDING = ("NotEnding", {})
NOT_TEXT = ("NotText", {})


def unchanged(call, *values):
    """Return whether the call, which may fail, leaves its arguments as they are."""
    kept = copy.deepcopy(values)
    raised(call, *values)
    return repr(values) == repr(kept)


class Numbers:
    """Numbers that look as if drawn, the same ones each time."""

    def __init__(self, seed):
        self.state = seed * 7919 + 1

    def below(self, end):
        """Return the next number, from 0 to below the end."""
        self.state = (self.state * 6364136223846793005 + 1442695040888963407) % 2 ** 64
        return (self.state >> 33) % end

    def few(self, items, many):
        """Return so many different ones of the items, in their order."""
        kept = list(range(len(items)))
        while len(kept) > many:
            del kept[self.below(len(kept))]
        return [items[k] for k in kept]


def drawn_rule(numbers, pools, most):
    """Return a rule for so many pools, with integers up to most, about half of them 0."""
    while True:
        rule = tuple(
            tuple(tuple(numbers.below(2) * numbers.below(most + 1) for _ in range(pools)) for _ in range(2))
            for _ in range(1 + numbers.below(3)))
        if any(takes != puts for takes, puts in rule):
            return rule


def drawn_nets(seed, count, pools=4, rules=8):
    """Return nets of 1 to so many pools, with 0 to so many rules of 1 to 3 places."""
    numbers = Numbers(seed)
    found = []
    for _ in range(count):
        many, most = 1 + numbers.below(pools), (1, 1, 2, 3, 9)[numbers.below(5)]
        found.append((many, tuple(sorted({drawn_rule(numbers, many, most) for _ in range(numbers.below(rules + 1))}))))
    return found


def small_rules(pools, most, sizes):
    """Return all rules for so many pools that have one of the sizes and integers up to most."""
    moved = list(itertools.product(range(most + 1), repeat=pools))
    places = list(itertools.product(moved, repeat=2))
    return sorted(
        rule for size in sizes for rule in itertools.product(places, repeat=size)
        if any(takes != puts for takes, puts in rule))


def near(value):
    """Return values that are near to the value: one number or word changed, one part left out, doubled or moved."""
    if isinstance(value, tuple):
        found = [list(value), value + ((),), value + (None,), (value,)]
        for k, item in enumerate(value):
            found += [value[:k] + value[k + 1:], value[:k] + (item,) + value[k:]]
            found += [value[:k] + (other,) + value[k + 1:] for other in near(item)]
            if k > 0:
                found.append(value[:k - 1] + (item, value[k - 1]) + value[k + 1:])
        return found
    if isinstance(value, int):
        others = [value + 1, value - 1, -value, 0, value * 2 + 1]
        return others + [value == 1, value != 0, str(value), None, (value,), [], {}]
    if isinstance(value, str):
        return ["early", "even", "late", "", "Even", value.upper(), value + " ", 0, None, True, (value,), [value], {}]
    return []


def drawn_movers(seed, count, pools=4, rules=5):
    """Return nets whose rules take one token at a place and put one or two at others, or that one itself."""
    numbers = Numbers(seed)
    found = []
    for _ in range(count):
        many = 1 + numbers.below(pools)
        drawn = {_mover(numbers, many) for _ in range(1 + numbers.below(rules))}
        found.append((many, tuple(sorted(drawn - {None}))))
    return found


def _mover(numbers, pools):
    """Return a rule that takes one token and puts one or two, None where that changes nothing."""
    size = 1 + numbers.below(3)
    taken = (numbers.below(size), numbers.below(pools))
    puts = [(numbers.below(size), numbers.below(pools)) for _ in range(1 + numbers.below(2))]
    rule = tuple(
        (tuple(int((place, pool) == taken) for pool in range(pools)),
         tuple(puts.count((place, pool)) for pool in range(pools)))
        for place in range(size))
    return rule if any(takes != puts for takes, puts in rule) else None
