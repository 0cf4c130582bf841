"""Numbers in texts ([40])."""

from anyhalf.alphabet import all_among

DIGITS = "0123456789"
DIGITS_MOST = 4
NO_NUMBER = -1


def number_in(text):
    """The number from 0 to 9999 that is written so, or NO_NUMBER."""
    if not all_among(text, DIGITS) or len(text) > DIGITS_MOST:
        return NO_NUMBER
    if text[0] == "0" and text != "0":
        return NO_NUMBER
    return int(text)
