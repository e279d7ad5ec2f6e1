"""The sums by which texts are checked."""


def sum_of(start, text):
    """The number that comes of this one by the signs of a text."""
    total = start
    for sign in text:
        total = (total * 263 + ord(sign)) % 1000003
    return total
