"""Words of texts: numbers without needless zeros."""

DIGITS = "0123456789"
LONG = 60
SHORT = 9


def is_number_word(word, figures):
    """Judge whether a word is a number from 0 on of at most so many figures, without needless zeros."""
    if not 1 <= len(word) <= figures or not all([sign in DIGITS for sign in word]):
        return False
    return word == "0" or word[0] != "0"


def numbers_between(word, sign, many):
    """Tell so many numbers of a word that have a sign between them, None where it has not this form."""
    parts = word.split(sign)
    if len(parts) != many or not all([is_number_word(part, LONG) for part in parts]):
        return None
    return tuple([int(part) for part in parts])
