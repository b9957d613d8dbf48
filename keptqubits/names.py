"""What is a name, and what is a place: words that texts are made of."""

DIGITS = "0123456789"
SMALL_LETTERS = "abcdefghijklmnopqrstuvwxyz"
LONGEST = 12


def is_name(value):
    """Whether a value is a name: 1 to 12 letters a-z and digits, the first one a letter."""
    if not isinstance(value, str) or not 1 <= len(value) <= LONGEST:
        return False
    return value[0] in SMALL_LETTERS and value.strip(SMALL_LETTERS + DIGITS) == ""


def number_below(word, limit):
    """The integer from 0 on below a limit that a word tells without a 0 ahead, or None."""
    if word == "" or word.strip(DIGITS) or (word[0] == "0" and word != "0"):
        return None
    # so long a word may be too long for int
    if len(word) > len(str(limit)) or int(word) >= limit:
        return None
    return int(word)


def is_bits(word):
    """Whether a word is made of one or more signs 0 and 1."""
    return word != "" and word.strip("01") == ""
