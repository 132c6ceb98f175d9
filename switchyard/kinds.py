"""Names, numbers, types and words: what the parts of a table and of a list are made of."""

from switchyard.errors import BadWords

LETTERS = "abcdefghijklmnopqrstuvwxyz"
FIGURES = "0123456789"


def is_integer(value):
    """Whether a value is an int, but neither True nor False."""
    return isinstance(value, int) and not isinstance(value, bool)


def is_row(value):
    """Whether a value is a row: a list or a tuple."""
    return isinstance(value, (list, tuple))


def is_letter(value):
    """Whether a value is one small letter."""
    return isinstance(value, str) and len(value) == 1 and value in LETTERS


def is_name(value):
    """Whether a value is a name of [3]."""
    if not isinstance(value, str) or len(value) < 1 or len(value) > 8:
        return False
    return value[0] in LETTERS and all([sign in LETTERS + FIGURES for sign in value])


def are_names(names):
    """Whether a row holds 1 to 8 different names and nothing else."""
    if len(names) < 1 or len(names) > 8 or not all([is_name(name) for name in names]):
        return False
    return len(set(names)) == len(names)


def is_kind(value):
    """Whether a value is a type of [3]."""
    if not isinstance(value, tuple) or len(value) == 0:
        return False
    if value[0] == "any":
        return len(value) == 1
    if value[0] == "chosen":
        return are_names(value[1:])
    return value[0] == "number" and len(value) == 3 and is_span_of_numbers(value[1], value[2])


def is_span_of_numbers(low, high):
    """Whether two values are the least and the greatest number of a type."""
    return is_integer(low) and is_integer(high) and -99 <= low <= high <= 99


def is_low(value):
    """Whether a value can be the lower bound of how often something comes."""
    return is_integer(value) and 0 <= value <= 9


def is_high(low, value):
    """Whether a value can be the upper bound above such a lower one; None is without end."""
    return value is None or (is_integer(value) and 1 <= value <= 9 and low <= value)


def is_of(kind, word):
    """Whether a word is one of a type."""
    if not isinstance(word, str):
        return False
    if kind[0] == "any":
        return True
    if kind[0] == "chosen":
        return word in kind[1:]
    return word in [str(number) for number in range(kind[1], kind[2] + 1)]


def are_of(kind, words):
    """Whether all words are of a type."""
    return all([is_of(kind, word) for word in words])


def are_as_many(low, high, row):
    """Whether a row is as long as these bounds say; None is without end."""
    return low <= len(row) and (high is None or len(row) <= high)


def may_have(takes, values):
    """Whether an option that takes this may have these values in one coming."""
    if takes[0] == "nothing":
        return values == ()
    if takes[0] == "one":
        few, many = 1, 1
    elif takes[0] == "maybe":
        few, many = 0, 1
    else:
        few, many = takes[2], takes[3]
    return are_as_many(few, many, values) and are_of(takes[1], values)


def checked_words(words):
    """A list of words, as a tuple."""
    if not is_row(words):
        raise BadWords(None)
    for number, word in enumerate(words):
        if not isinstance(word, str):
            raise BadWords(number)
    return tuple(words)
