"""What several tests use."""

import copy

# Values of every kind that are no net, no row, no deed, no run, no order and no text that names a net.
WRONG = [
    0, 1, 2, -1, 10 ** 40, "", "a", "1", True, False, None, [], [1], [()], {}, {1: ()}, {"a": [1]},
    (None,), ("1",), ([],), ({},), (True,), (1, 2), (1, [2], "3"), ((1, 2), 3), ((((),),),),
    "1: 1>1", ((None, None),), (False, None, True, (), [], {}),
]


def raised(call, *values):
    """Return the name and the fields of the error that the call raises, None without one."""
    try:
        call(*values)
    except ValueError as error:
        return type(error).__name__, vars(error)
    return None


def bad_net(index):
    return "BadNet", {"index": index}


def bad_row(index):
    return "BadRow", {"index": index}


def bad_run(index):
    return "BadRun", {"index": index}


def invalid_text(place):
    return "InvalidText", {"place": place}


def too_many(most):
    return "TooMany", {"most": most}


BAD_DEED = ("BadDeed", {})
BAD_ORDER = ("BadOrder", {})
NOT_ENDING = ("NotEnding", {})
NOT_TEXT = ("NotText", {})


def unchanged(call, *values):
    """Return whether the call, which may fail, leaves its arguments as they are."""
    kept = copy.deepcopy(values)
    raised(call, *values)
    return repr(values) == repr(kept)
