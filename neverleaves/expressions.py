"""Expressions and conditions: which are valid, and what they are worth."""

from neverleaves.errors import InvalidExpression
from neverleaves.words import is_name

MOST_DEPTH = 12


def parts_in(whole):
    """The expressions and conditions that stand directly in an expression or a condition, in order."""
    word = whole[0]
    if word in ("number", "name"):
        return ()
    if word in ("div", "mod"):
        return whole[1:2]
    if word in ("all", "any"):
        return whole[1]
    return whole[1:]


def check_expression(expression):
    """Raise InvalidExpression if the expression is not valid."""
    _check(expression, 1)


def check_condition(condition):
    """Raise InvalidExpression if the condition is not valid."""
    _check(condition, 1)


def _check(whole, depth):
    """Check an expression or a condition that stands at a depth."""
    if depth > MOST_DEPTH:
        raise InvalidExpression("the depth is more than 12")
    word = whole[0]
    if word == "name" and not is_name(whole[1]):
        raise InvalidExpression("a name is not right")
    if word in ("div", "mod") and whole[2] < 1:
        raise InvalidExpression("a divisor is less than 1")
    for part in parts_in(whole):
        _check(part, depth + 1)


def value_of(expression, values):
    """The value of a valid expression, for a dict with the values of its names."""
    word = expression[0]
    if word == "number":
        return expression[1]
    if word == "name":
        return values[expression[1]]
    if word == "if":
        chosen = expression[2] if holds(expression[1], values) else expression[3]
        return value_of(chosen, values)
    if word == "abs":
        return abs(value_of(expression[1], values))
    if word == "div":
        return value_of(expression[1], values) // expression[2]
    if word == "mod":
        return value_of(expression[1], values) % expression[2]
    return _value_of_two(word, value_of(expression[1], values), value_of(expression[2], values))


def _value_of_two(word, first, second):
    """What a word makes of the values of its two expressions."""
    if word == "add":
        return first + second
    if word == "sub":
        return first - second
    if word == "mul":
        return first * second
    if word == "min":
        return min(first, second)
    return max(first, second)


def holds(condition, values):
    """True if a valid condition holds, for a dict with the values of its names."""
    word = condition[0]
    if word == "true":
        return True
    if word == "false":
        return False
    if word == "less":
        return value_of(condition[1], values) < value_of(condition[2], values)
    if word == "equal":
        return value_of(condition[1], values) == value_of(condition[2], values)
    if word == "not":
        return not holds(condition[1], values)
    if word == "all":
        return all([holds(part, values) for part in condition[1]])
    return any([holds(part, values) for part in condition[1]])


def names_in(expression):
    """The names in a valid expression or condition, in alphabetical order without duplicates."""
    return tuple(sorted(set(_all_names(expression))))


def _all_names(whole):
    """The names in an expression or a condition, as they come."""
    if whole[0] == "name":
        return [whole[1]]
    found = []
    for part in parts_in(whole):
        found.extend(_all_names(part))
    return found
