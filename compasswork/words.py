"""Words of texts that write integers."""

MOST_DIGITS = 30


def integer_of(word):
    """The integer that the word writes, or None if it writes none."""
    if word == "0":
        return 0
    digits = word.removeprefix("-")
    if not 1 <= len(digits) <= MOST_DIGITS or digits[0] == "0":
        return None
    for digit in digits:
        if digit not in "0123456789":
            return None
    return int(word)
