"""Texts of expressions and conditions as rows of tokens."""

from neverleaves.words import DIGITS, LETTERS, run_end


def tokens_of(text):
    """The pieces of a text with their columns, and the end of the text as an empty piece.

    A piece that is no token (a strange character, a lone minus, an integer that is not
    right) stands among them as it is: it fits nowhere.
    """
    tokens = []
    at = run_end(text, 0, " ")
    while at < len(text):
        end = _piece_end(text, at)
        tokens.append((text[at:end], at + 1))
        at = run_end(text, end, " ")
    tokens.append(("", len(text) + 1))
    return tokens


def _piece_end(text, at):
    """The index behind the piece that begins at an index."""
    if text[at] in LETTERS:
        return run_end(text, at, LETTERS)
    if text[at] in DIGITS or text[at] == "-":
        return run_end(text, at + 1, DIGITS)
    return at + 1
