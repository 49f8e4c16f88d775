"""Integers, words and numbers: what they are, and how they are found."""

from seenrules.errors import InvalidInteger, InvalidWords

LETTERS = "abcdefghijklmnopqrstuvwxyz"
DIGITS = "0123456789"
LONGEST_WORD = 6
LARGEST_NUMBER = 9999
MOST_DIGITS = 4
MOST_WORDS = 100


def is_integer(value, low, high):
    """Tell whether any value is an integer from low to high."""
    return isinstance(value, int) and not isinstance(value, bool) and low <= value <= high


def check_integer(value, low, high):
    """Raise InvalidInteger for any value that is not an integer from low to high."""
    if not is_integer(value, low, high):
        raise InvalidInteger(value)


def is_word(value):
    """Tell whether any value is a string of one to six letters from a to z."""
    if not isinstance(value, str) or not 1 <= len(value) <= LONGEST_WORD:
        return False
    return value.isascii() and value.isalpha() and value.islower()


def is_number(value):
    """Tell whether any value is an integer from -9999 to 9999."""
    return is_integer(value, -LARGEST_NUMBER, LARGEST_NUMBER)


def is_list(value):
    """Tell whether any value may stand where a list is asked for."""
    return isinstance(value, (list, tuple))


def are_words(value, least, most):
    """Tell whether any value is a list of words, from least to most of them."""
    if not is_list(value) or not least <= len(value) <= most:
        return False
    return all([is_word(item) for item in value])


def are_different(words):
    """Tell whether no word of a list stands in it twice."""
    return len(set(words)) == len(words)


def product(counts):
    """Return the product of some numbers, 1 of none."""
    result = 1
    for count in counts:
        result = result * count
    return result


def choices(columns):
    """Return all tuples with one item of each column, in order; the items of the last column change fastest."""
    rows = [()]
    for items in columns:
        rows = [(*row, item) for row in rows for item in items]
    return rows


def parse_number(text):
    """Return the number that a string represents, or None for any other value."""
    if not isinstance(text, str):
        return None
    digits = text.removeprefix("-")
    if not 1 <= len(digits) <= MOST_DIGITS or not all([digit in DIGITS for digit in digits]):
        return None
    number = int(text)
    # A leading zero and "-0" are read by int, but not written by str.
    return number if str(number) == text else None


def first_other(words):
    """Return the first word that is not in a list of at most a hundred words."""
    if not are_words(words, 0, MOST_WORDS):
        raise InvalidWords(words)
    known = set(words)
    # One of them is returned: there are more than a hundred words of up to two letters.
    for start in ["", *LETTERS]:
        for letter in LETTERS:
            if start + letter not in known:
                return start + letter
