"""Expressions, conditions and plants as texts, and read back."""

from neverleaves.errors import BadText
from neverleaves.expressions import names_in, parts_in
from neverleaves.parsing import read_whole
from neverleaves.plants import names_of
from neverleaves.words import is_integer, is_name


def write_expression(expression):
    """The written form of a valid expression."""
    return _written(expression)


def write_condition(condition):
    """The written form of a valid condition."""
    return _written(condition)


def _written(whole):
    """The written form of an expression or a condition."""
    word = whole[0]
    if word == "number":
        return str(whole[1])
    if word == "name":
        return whole[1]
    if word in ("true", "false"):
        return word
    parts = [_written(part) for part in parts_in(whole)]
    if word in ("div", "mod"):
        parts.append(str(whole[2]))
    return word + "(" + ", ".join(parts) + ")"


def read_expression(text):
    """The valid expression of a text. Raises BadText."""
    return read_whole(text, "expression")


def read_condition(text):
    """The valid condition of a text. Raises BadText."""
    return read_whole(text, "condition")


def write_plant(plant):
    """The text of a valid plant."""
    variables, inputs, disturbances, steps, allowed = plant
    lines = _range_lines("state", variables)
    lines.extend(_range_lines("input", inputs))
    lines.extend(_range_lines("noise", disturbances))
    for name, step in zip(names_of(variables), steps):
        lines.append("next " + name + " " + _written(step))
    lines.append("allow " + _written(allowed))
    return "".join([line + "\n" for line in lines])


def _range_lines(kind, ranges):
    """The lines of variables, inputs or disturbances."""
    return [f"{kind} {name} {low} {high}" for name, low, high in ranges]


def read_plant(text):
    """The valid plant of a text. Raises BadText."""
    lines = text.split("\n")
    # Behind the last newline stands no line that is right: an empty one never is.
    lines[-1] = ""
    variables, at = _read_ranges(lines, 0, "state", ())
    if variables == ():
        raise BadText(1, 1)
    inputs, at = _read_ranges(lines, at, "input", names_of(variables))
    known = names_of(variables + inputs)
    disturbances, at = _read_ranges(lines, at, "noise", known)
    named = known + names_of(disturbances)
    steps = []
    for name in names_of(variables):
        steps.append(_read_behind("next " + name + " ", lines, at, "expression", named))
        at += 1
    allowed = _read_behind("allow ", lines, at, "condition", known)
    if at + 2 != len(lines) or not text.endswith("\n"):
        raise BadText(at + 2, 1)
    return variables, inputs, disturbances, tuple(steps), allowed


def _read_ranges(lines, at, kind, taken):
    """The triples of the lines of a kind that stand from an index on, and the index behind them."""
    ranges = ()
    while lines[at].startswith(kind + " "):
        words = lines[at].split(" ")
        if not _is_range(words, taken + names_of(ranges)):
            raise BadText(at + 1, 1)
        ranges = ranges + ((words[1], int(words[2]), int(words[3])),)
        at += 1
    return ranges, at


def _is_range(words, taken):
    """True if the words, behind the first one, are a name that is not taken and two ordered bounds."""
    if len(words) != 4:
        return False
    name, low, high = words[1:]
    if not is_name(name) or name in taken:
        return False
    return is_integer(low) and is_integer(high) and int(low) <= int(high)


def _read_behind(start, lines, at, kind, names):
    """The expression or condition that stands in a line behind its start and names only these names."""
    rest = lines[at][len(start):]
    try:
        whole = read_whole(rest, kind)
    except BadText:
        raise BadText(at + 1, 1) from None
    # Only one text is the written form, so the line is right if it is written again as it was.
    if lines[at] != start + _written(whole) or not all([name in names for name in names_in(whole)]):
        raise BadText(at + 1, 1)
    return whole
