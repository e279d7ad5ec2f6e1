"""The forms of plain values and of ids; each function here is for any value.

All that gets a history asks these for each deed of it, so they call one another as little as they can.
"""

LETTERS = "abcdefghijklmnopqrstuvwxyz"
LETTERS_AND_BLANK = "abcdefghijklmnopqrstuvwxyz "


def is_number(value):
    """Whether this is an integer from 0 on; a truth value is none."""
    return isinstance(value, int) and value >= 0 and value is not True and value is not False


def is_rank(value):
    """Whether this is an integer from 1 on, as deeds of a hand are numbered."""
    return isinstance(value, int) and value >= 1 and value is not True


def is_word(value):
    """Whether this is a string of 1 to 8 letters a to z."""
    return isinstance(value, str) and 1 <= len(value) <= 8 and not value.strip(LETTERS)


def is_text(value):
    """Whether this is a string of 1 to 8 signs, letters a to z or blanks."""
    return isinstance(value, str) and 1 <= len(value) <= 8 and not value.strip(LETTERS_AND_BLANK)


def is_hand(value):
    """Whether this is a hand, the owner among them."""
    return isinstance(value, int) and 1 <= value <= 4 and value is not True


def is_guest(value):
    """Whether this is a hand other than the owner."""
    return isinstance(value, int) and 2 <= value <= 4


def is_deed_id(value):
    """Whether this can be the id of a deed."""
    if not isinstance(value, tuple) or len(value) != 2:
        return False
    return is_hand(value[0]) and is_rank(value[1])


def is_block_id(value):
    """Whether this is a deed's id or that of the root."""
    if not isinstance(value, tuple) or len(value) != 2:
        return False
    hand, number = value
    if not isinstance(hand, int) or not isinstance(number, int) or hand is True or number is True:
        return False
    if hand == 0:
        # (False, False) is equal to the root's id and is none
        return number == 0 and hand is not False and number is not False
    return 1 <= hand <= 4 and number >= 1


def is_sign_id(value):
    """Whether this can be the id of a sign."""
    if not isinstance(value, tuple) or len(value) != 3:
        return False
    hand, number, k = value
    if not isinstance(hand, int) or not isinstance(number, int) or not isinstance(k, int):
        return False
    if hand is True or number is True or k is True or k is False:
        return False
    return 1 <= hand <= 4 and number >= 1 and k >= 0


def is_place(value):
    """Whether this is a sign id or None."""
    return value is None or is_sign_id(value)


def is_behind(value):
    """Whether this is a block id or None."""
    return value is None or is_block_id(value)


def is_worth(value):
    """Whether this is a word or None."""
    return value is None or is_word(value)


def ascends(ids):
    """Whether each of these ids is less than the one behind it."""
    return all([one < following for one, following in zip(ids, ids[1:])])


def is_sign_row(value):
    """Whether this is a tuple of 1 to 8 sign ids that ascend, all unlike."""
    if not isinstance(value, tuple) or not 1 <= len(value) <= 8:
        return False
    return all([is_sign_id(sign) for sign in value]) and ascends(value)


FORMS = {
    "block": is_block_id,
    "behind": is_behind,
    "sign": is_sign_id,
    "place": is_place,
    "signs": is_sign_row,
    "word": is_word,
    "worth": is_worth,
    "text": is_text,
    "rank": is_rank,
    "guest": is_guest,
}
