"""Nets as texts."""

from poolrows.checks import MOST_RULE_PLACES, MOST_RULES, changes_something, check_net
from poolrows.errors import InvalidText, NotText

POOL_NUMBERS = "1234"
DIGITS = "0123456789"


def write_net(net):
    """Return the text that names the net."""
    check_net(net)
    many, rules = net
    return f"{many}:" + "".join([" " + _rule_text(rule) for rule in rules])


def read_net(text):
    """Return the net that the text names."""
    if not isinstance(text, str):
        raise NotText("the text is not a string")
    at = _behind_spaces(text, 0)
    _check_sign(text, at, POOL_NUMBERS)
    many = int(text[at])
    _check_sign(text, at + 1, ":")
    return many, _read_rules(text, at + 2, many)


def _rule_text(rule):
    """Return the rule's places, parted."""
    return "|".join([_digits(takes) + ">" + _digits(puts) for takes, puts in rule])


def _digits(moved):
    """Return the digits of the numbers."""
    return "".join([str(number) for number in moved])


def _behind_spaces(text, at):
    """Return where the spaces that stand there end."""
    while at < len(text) and text[at] == " ":
        at += 1
    return at


def _check_sign(text, at, signs):
    """Raise InvalidText if none of the signs stands there."""
    if at == len(text) or text[at] not in signs:
        raise InvalidText(at)


def _read_rules(text, at, many):
    """Return the rules that stand there, up to the end of the text."""
    rules = []
    start = _behind_spaces(text, at)
    while start < len(text):
        rule, end = _read_rule(text, start, many)
        # The rule's own character stands ahead of the one behind it, so it is told first.
        if len(rules) == MOST_RULES or not changes_something(rule) or rules and rule <= rules[-1]:
            raise InvalidText(start)
        if end < len(text) and text[end] != " ":
            raise InvalidText(end)
        rules.append(rule)
        start = _behind_spaces(text, end)
    return tuple(rules)


def _read_rule(text, at, many):
    """Return the places that stand there, and where they end."""
    place, at = _read_place(text, at, many)
    places = [place]
    while text[at:at + 1] == "|":
        if len(places) == MOST_RULE_PLACES:
            raise InvalidText(at)
        place, at = _read_place(text, at + 1, many)
        places.append(place)
    return tuple(places), at


def _read_place(text, at, many):
    """Return the takes and puts that stand there, and where they end."""
    takes, at = _read_digits(text, at, many)
    _check_sign(text, at, ">")
    puts, at = _read_digits(text, at + 1, many)
    return (takes, puts), at


def _read_digits(text, at, many):
    """Return the numbers of so many digits that stand there, and where they end."""
    end = at + many
    for place in range(at, end):
        _check_sign(text, place, DIGITS)
    return tuple([int(digit) for digit in text[at:end]]), end
