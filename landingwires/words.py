"""The four words of a lamp."""

LIT = 'lit'
WORDS = ('short', 'lit', 'warm', 'dark')


def word_of(numbers):
    """The word of a lamp: equal numbers of live, back and its two ends tell that these hang together."""
    live, back, one, other = numbers
    if live == back:
        return 'short'
    if (one, other) == (live, back) or (other, one) == (live, back):
        return LIT
    return 'warm' if one == live or other == live else 'dark'


def is_lit_by(numbers):
    """Whether a lamp is lit, by numbers of live, back and its two ends."""
    return word_of(numbers) == LIT


def words_of(numbers):
    """The words of several lamps, by numbers of live, back and the two ends of each lamp in turn."""
    live, back, *ends = numbers
    return tuple([word_of((live, back, ends[at], ends[at + 1])) for at in range(0, len(ends), 2)])


def lit_of(numbers):
    """Which of several lamps are lit, told likewise."""
    return tuple([word == LIT for word in words_of(numbers)])
