"""Whole numbers: what is one, and their texts."""

# Python refuses to turn very long numbers into texts and back in one go,
# so it is done by pieces of this many figures.
PIECE = 60
SPAN = 10 ** 60


def is_number(thing):
    """Whether a thing is a number; True and False are none."""
    return isinstance(thing, int) and not isinstance(thing, bool)


def number_text(number):
    """The text of a number, however long."""
    if number < 0:
        return "-" + number_text(-number)
    pieces = []
    rest = number
    while rest >= SPAN:
        rest, low = divmod(rest, SPAN)
        pieces.append(str(low).zfill(PIECE))
    pieces.append(str(rest))
    return "".join(pieces[::-1])


def number_in(text):
    """The number whose text it is, None where there is none."""
    digits = text.removeprefix("-")
    # Only isascii keeps out the figures of other scripts.
    if not digits.isascii() or not digits.isdigit():
        return None
    if digits[0] == "0" and text != "0":
        return None
    number = _number_of(digits)
    if digits == text:
        return number
    return -number


def _number_of(digits):
    """The number that figures tell, however many they are."""
    head = len(digits) % PIECE
    number = int("0" + digits[:head])
    for at in range(head, len(digits), PIECE):
        number = number * SPAN + int(digits[at:at + PIECE])
    return number
