"""The words of a text, and names."""

LETTERS = "abcdefghijklmnopqrstuvwxyz"
DIGITS = "0123456789"
LONGEST_NAME = 8


def is_name(value):
    """Whether any value is a NAME."""
    if not isinstance(value, str) or not 1 <= len(value) <= LONGEST_NAME:
        return False
    return value[0] in LETTERS and all(letter in LETTERS + DIGITS for letter in value)


def is_unknown(value):
    """Whether any value is an UNKNOWN."""
    return is_name(value) and value not in ("at", "slack")


def lines(text):
    """For each line the list of its words, each with its spot, and the END as the last one."""
    return [_words_of(line) for line in text.split("\n")]


def _words_of(line):
    # What is behind the first # is a remark; without one the whole line is read.
    read = line.partition("#")[0]
    words = []
    spot = 0
    while spot < len(read):
        end = _end_of_word(read, spot)
        if read[spot] != " ":
            words.append((spot, read[spot:end]))
        spot = end
    words.append((len(line), ""))
    return words


def _end_of_word(read, spot):
    """The spot behind the word, or the space, that begins at the spot."""
    if read[spot:spot + 2] in ("<=", ">="):
        return spot + 2
    end = spot
    while end < len(read) and read[end] in LETTERS + DIGITS:
        end += 1
    return max(end, spot + 1)
