"""Chains of numbers that tell whether the deeds of a hand are alike, and from where on they are not."""

from quillmoot.books import HANDS
from quillmoot.deedtext import deed_text
from quillmoot.errors import InvalidNumber
from quillmoot.forms import is_hand
from quillmoot.histories import checked
from quillmoot.sums import sum_of


def chain_start(hand):
    """The number of a hand without deeds."""
    return 7 * hand


def chain_in(book, hand):
    """The chain of a hand in a book that has all its deeds."""
    total = chain_start(hand)
    chain = []
    for number in range(1, book.clock[hand - 1] + 1):
        total = sum_of(total, deed_text(book.deeds[(hand, number)]))
        chain.append(total)
    return tuple(chain)


def chain_of(history, hand):
    """The number behind each deed of a hand, in order."""
    book = checked(history)
    if not is_hand(hand):
        raise InvalidNumber(hand)
    return chain_in(book, hand)


def seal_of(history):
    """The last number of the chain of each hand."""
    book = checked(history)
    seal = []
    for hand in HANDS:
        chain = chain_in(book, hand)
        seal.append(chain[-1] if chain else chain_start(hand))
    return tuple(seal)


def first_apart(chain, other):
    """The first place at which both chains have numbers and these are unlike, or None."""
    for place, (one, two) in enumerate(zip(chain, other)):
        if one != two:
            return place
    return None


def asked_places(chain, other):
    """The places that are looked at, by halving, for the first one at which two chains are apart."""
    low, high = 0, min(len(chain), len(other))
    asked = []
    while low < high:
        middle = (low + high) // 2
        asked.append(middle)
        if chain[middle] == other[middle]:
            low = middle + 1
        else:
            high = middle
    return tuple(asked)
