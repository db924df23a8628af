"""Arenas and papers as texts, and read back."""

from neverleaves.arenas import is_ascending
from neverleaves.errors import BadText
from neverleaves.words import is_integer

# For each kind of labels: how many integers its first part has, the word before its last part,
# and how many integers that one has. There is no such word in "holds" but the kind itself.
FORMS = {
    "holds": ("none", "holds", "one"),
    "driven": ("one", "replies", "many"),
    "comes": ("one", "option", "one"),
    "away": ("none", "replies", "many"),
    "even": ("many", "option", "one"),
    "odd": ("many", "replies", "many"),
    "keeps": ("one", "option", "one"),
    "drained": ("one", "replies", "many"),
}


def write_arena(arena):
    """The text of a right arena."""
    return _text_of([_words_of_options(options) for options in arena])


def write_paper(paper):
    """The text of a tuple of labels."""
    return _text_of([_words_of_label(label) for label in paper])


def _text_of(rows):
    """The text with a line for each row of words."""
    return "".join([" ".join(["at", str(at)] + words) + "\n" for at, words in enumerate(rows)])


def _words_of_options(options):
    words = []
    for option in options:
        words.append("option")
        words.extend([str(after) for after in option])
    return words


def _words_of_label(label):
    kind = label[0]
    mark = FORMS[kind][1]
    words = [kind]
    for part in label[1:-1]:
        words.extend(_words_of_part(part))
    if mark != kind:
        words.append(mark)
    return words + _words_of_part(label[-1])


def _words_of_part(part):
    if isinstance(part, tuple):
        return [str(number) for number in part]
    return [str(part)]


def read_arena(text):
    """The arena of a text. Raises BadText."""
    many = len(_lines_of(text))
    return _read(text, lambda words: _options_in(words, many))


def read_paper(text):
    """The paper of a text. Raises BadText."""
    return _read(text, _label_in)


def _lines_of(text):
    """The lines of a text; the last one may have no newline at its end."""
    lines = text.split("\n")
    return lines[:-1] if lines[-1] == "" else lines


def _read(text, read_words):
    """What is read from the words of each line behind its number; None is read from words that are not right."""
    lines = _lines_of(text)
    found = []
    for at, line in enumerate(lines):
        words = line.split(" ")
        one = read_words(words[2:]) if words[:2] == ["at", str(at)] else None
        if one is None or (at + 1 == len(lines) and not text.endswith("\n")):
            raise BadText(at + 1, 1)
        found.append(one)
    return tuple(found)


def _options_in(words, many):
    """The options in the words of a line, in an arena with so many positions, or None."""
    options = []
    for word in words:
        if word == "option":
            options.append([])
        elif options != [] and is_integer(word):
            options[-1].append(int(word))
        else:
            return None
    if any([option == [] or not is_ascending(option, -1, many) for option in options]):
        return None
    return tuple([tuple(option) for option in options])


def _label_in(words):
    """The label in the words of a line, or None."""
    if words == [] or words[0] not in FORMS:
        return None
    first, mark, last = FORMS[words[0]]
    if mark not in words:
        return None
    end = words.index(mark)
    front = _part_in(words[1:end], first)
    back = _part_in(words[end + 1:], last)
    if front is None or back is None:
        return None
    return (words[0],) + front + back


def _part_in(words, many):
    """What a label gets of the words of a part, as a tuple, or None if they are not right."""
    if not all([is_integer(word) for word in words]):
        return None
    numbers = tuple([int(word) for word in words])
    if many == "many":
        return (numbers,)
    return numbers if len(numbers) == (1 if many == "one" else 0) else None
