"""Labels: which side they belong to, and where they end a play."""

# The last item of such a label is an option; that of every other label has the replies.
OPTION_KINDS = ("holds", "comes", "even", "keeps")


def has_option(label):
    """True if the label belongs to the controller."""
    return label[0] in OPTION_KINDS


def is_end(label):
    """True at home and at a position that is not to be kept: there is nothing more to pick."""
    return label[0] in ("comes", "driven") and label[1] == 0
