"""Reads an expression or a condition from its tokens, from the left, token by token.

Each reading function takes the index of the token at which it begins. It returns what it
has read and the index of the token behind it.
"""

from neverleaves.errors import BadText
from neverleaves.expressions import MOST_DEPTH
from neverleaves.tokens import tokens_of
from neverleaves.words import is_integer, is_name

# What stands in the parentheses behind a word.
EXPRESSION_PARTS = {
    "add": ("expression", "expression"),
    "sub": ("expression", "expression"),
    "mul": ("expression", "expression"),
    "div": ("expression", "divisor"),
    "mod": ("expression", "divisor"),
    "min": ("expression", "expression"),
    "max": ("expression", "expression"),
    "abs": ("expression",),
    "if": ("condition", "expression", "expression"),
}
CONDITION_PARTS = {
    "less": ("expression", "expression"),
    "equal": ("expression", "expression"),
    "not": ("condition",),
}


def read_whole(text, kind):
    """The valid "expression" or "condition" of a text. Raises BadText."""
    tokens = tokens_of(text)
    whole, at = _read_part(tokens, 0, kind, 1)
    _pass_token(tokens, at, "")
    return whole


def _pass_token(tokens, at, due):
    """The index behind a token that must be the one that is due."""
    word, column = tokens[at]
    if word != due:
        raise BadText(1, column)
    return at + 1


def _read_part(tokens, at, kind, depth):
    """Read an expression, a condition or a divisor; the depth is that of the first two."""
    if kind == "divisor":
        return _read_divisor(tokens, at)
    if depth > MOST_DEPTH:
        raise BadText(1, tokens[at][1])
    if kind == "expression":
        return _read_expression(tokens, at, depth)
    return _read_condition(tokens, at, depth)


def _read_divisor(tokens, at):
    word, column = tokens[at]
    if not is_integer(word) or int(word) < 1:
        raise BadText(1, column)
    return int(word), at + 1


def _read_expression(tokens, at, depth):
    word, column = tokens[at]
    if is_integer(word):
        return ("number", int(word)), at + 1
    if is_name(word):
        return ("name", word), at + 1
    if word not in EXPRESSION_PARTS:
        raise BadText(1, column)
    parts, end = _read_parts(tokens, at + 1, EXPRESSION_PARTS[word], depth + 1)
    return (word,) + parts, end


def _read_condition(tokens, at, depth):
    word, column = tokens[at]
    if word in ("true", "false"):
        return (word,), at + 1
    if word in ("all", "any"):
        conditions, end = _read_conditions(tokens, at + 1, depth + 1)
        return (word, conditions), end
    if word not in CONDITION_PARTS:
        raise BadText(1, column)
    parts, end = _read_parts(tokens, at + 1, CONDITION_PARTS[word], depth + 1)
    return (word,) + parts, end


def _read_parts(tokens, at, kinds, depth):
    """Read parentheses with one part of each of these kinds."""
    parts = []
    before = "("
    for kind in kinds:
        part, at = _read_part(tokens, _pass_token(tokens, at, before), kind, depth)
        parts.append(part)
        before = ","
    return tuple(parts), _pass_token(tokens, at, ")")


def _read_conditions(tokens, at, depth):
    """Read parentheses with any number of conditions, perhaps none."""
    at = _pass_token(tokens, at, "(")
    if tokens[at][0] == ")":
        return (), at + 1
    first, at = _read_part(tokens, at, "condition", depth)
    conditions = [first]
    while tokens[at][0] == ",":
        condition, at = _read_part(tokens, at + 1, "condition", depth)
        conditions.append(condition)
    return tuple(conditions), _pass_token(tokens, at, ")")
