"""The four words of a lamp."""

WORDS = ('short', 'lit', 'warm', 'dark')


def word_of(live, back, one, other):
    """The word of a lamp: equal numbers of live, back and its two ends tell that these hang together."""
    if live == back:
        return 'short'
    if (one, other) == (live, back) or (other, one) == (live, back):
        return 'lit'
    return 'warm' if one == live or other == live else 'dark'
