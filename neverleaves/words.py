"""Names and integers: the words that texts, expressions and plants are made of."""

LETTERS = "abcdefghijklmnopqrstuvwxyz"
DIGITS = "0123456789"
MOST_DIGITS = 60

# None of these is a name: where it stood in a text, it would be read as the word.
WORDS = (
    "true", "false", "add", "sub", "mul", "div", "mod", "min", "max", "abs",
    "if", "less", "equal", "not", "all", "any",
)


def run_end(text, at, characters):
    """The index behind the run of these characters that begins at an index, perhaps that index itself."""
    while at < len(text) and text[at] in characters:
        at += 1
    return at


def is_name(word):
    """True if the word is a name that expressions, conditions and plants may have."""
    return word != "" and word not in WORDS and run_end(word, 0, LETTERS) == len(word)


def is_integer(word):
    """True if the word is an integer as it stands in texts: no needless leading 0, at most 60 digits."""
    if word == "0":
        return True
    digits = word.removeprefix("-")
    if digits == "" or digits[0] == "0" or len(digits) > MOST_DIGITS:
        return False
    return run_end(digits, 0, DIGITS) == len(digits)
