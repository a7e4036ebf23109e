"""What all certificates have in common [0.3]."""


def is_kind(thing, kind, length):
    """Whether any value is a tuple of just this length whose first item is this string."""
    return isinstance(thing, tuple) and len(thing) == length and thing[0] == kind
