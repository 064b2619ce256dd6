"""Which texts are those of numbers."""

MAX_DIGITS = 60


def are_digits(text):
    """Whether the text is that of an integer of at least 0, with digits in whatever number."""
    if text == "" or (text[0] == "0" and text != "0"):
        return False
    return all([digit in "0123456789" for digit in text])


def is_natural(text):
    """Whether the text is that of an integer of at least 0."""
    return len(text) <= MAX_DIGITS and are_digits(text)


def is_whole(text):
    """Whether the text is that of an integer."""
    if text[:1] == "-":
        return text != "-0" and is_natural(text[1:])
    return is_natural(text)
