"""What an integer and a name are, throughout the package."""

LETTERS = 'abcdefghijklmnopqrstuvwxyz'
MOST_LETTERS = 8
ENDS = ('live', 'back')


def is_int(value):
    """Whether a value is an integer; True and False are none."""
    return isinstance(value, int) and not isinstance(value, bool)


def is_name(value):
    """Whether a value is a name: 1 to 8 letters, neither live nor back."""
    if not isinstance(value, str) or not 1 <= len(value) <= MOST_LETTERS:
        return False
    return value not in ENDS and all([letter in LETTERS for letter in value])


def is_ascending(values):
    """Whether the values of a tuple, all of one form, stand as sorted, none of them twice."""
    return all([one < other for one, other in zip(values, values[1:])])
