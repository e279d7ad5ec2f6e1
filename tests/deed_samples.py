"""Right and wrong parts, acts and deeds by their kinds, for the tests of promise [6]."""

BIG = 10 ** 40

# wrong wherever a tuple of integers is asked
ODD = (
    True, False, 0, 1, -1, BIG, "", "a", "ab", "1.1", "1.1.0", "None", "-", " ", (), [], (None,), [None], ("",), ("ab",),
    ((),), ([],), [[]], [()], (1,), [1], (True,), ((1, 1),), ((1, 1, 0),), [(1, 1)], [(1, 1, 0)], (((1, 1, 0),),),
)

WRONG_BLOCKS = ODD + (
    # lists
    [0, 0], [1, 1], ([0], 0), (0, [0]), ([1], 1), (1, [1]),
    # parts too few or too many
    (0,), (0, 0, 0), (1, 1, 0), (1, 1, 1), (1, 1, 0, 0), (0, 0, 0, 0),
    # hands that are none
    (5, 1), (-1, 1), (0, 1), (0, 2), (BIG, 1), (-4, 1),
    # numbers below 1, but for the root
    (1, 0), (2, 0), (4, 0), (1, -1), (4, -1), (0, -1), (-1, 0), (-1, -1),
    # truth values, None, strings, tuples within
    (True, 1), (1, True), (True, True), (False, False), (False, 0), (0, False), (2, True), (None, 1), (1, None),
    (None, None), ("1", 1), (1, "1"), ("1", "1"), ("a", "b"), ((1,), 1), (1, (1,)), ((1, 1), (1, 1)),
)

WRONG_SIGNS = ODD + (
    # lists
    [1, 1, 0], [0, 0, 0], ([1], 1, 0), (1, [1], 0), (1, 1, [0]), ([1, 1], 0), ((1, 1), 0),
    # parts too few or too many
    (1, 1), (0, 0), (4, 9), (1, 1, 0, 0), (1, 1, 0, 1), (1, 1, 0, None),
    # hands that are none
    (0, 1, 0), (5, 1, 0), (-1, 1, 0), (BIG, 1, 0), (0, 0, 0), (0, 0, 1),
    # numbers below 1, and signs below 0
    (1, 0, 0), (4, 0, 0), (1, -1, 0), (1, 1, -1), (4, 4, -BIG), (1, -BIG, 0),
    # truth values, None, strings, tuples within
    (True, 1, 0), (1, True, 0), (1, 1, True), (1, 1, False), (False, 1, 0), (1, False, 0), (True, True, False),
    (None, 1, 0), (1, None, 0), (1, 1, None), ("1", 1, 0), (1, "1", 0), (1, 1, "0"), "110", ("1", "1", "0"),
    ((1,), 1, 0), (1, (1,), 0), (1, 1, (0,)), (1, 1, ()),
)

WRONG_ROWS = (
    True, False, 0, 1, -1, "", "a", "1.1.0", "1.1.0+1.1.1",
    # none, nine, and many
    (), tuple((1, 1, k) for k in range(9)), tuple((1, 1, k) for k in range(300)),
    # a sign id itself
    (1, 1, 0), (1, 1), (1, 2, 3),
    # lists
    [], [(1, 1, 0)], [(1, 1, 0), (1, 1, 1)], ([1, 1, 0],), ((1, 1, 0), [1, 1, 1]), ([(1, 1, 0)],), (((1, 1, 0),),),
    # twice
    ((1, 1, 0), (1, 1, 0)), ((1, 1, 0), (1, 1, 1), (1, 1, 1)), ((1, 1, 0),) * 8, ((1, 1, 0), (1, 1, 1), (1, 1, 0)),
    # not ascending
    ((1, 1, 1), (1, 1, 0)), ((2, 1, 0), (1, 1, 0)), ((1, 2, 0), (1, 1, 0)), ((1, 1, 0), (1, 1, 2), (1, 1, 1)),
    ((1, 2, 0), (1, 1, 9)), ((2, 1, 0), (1, 9, 9)), ((1, 1, 10), (1, 1, 9)), ((1, 10, 0), (1, 9, 0)),
    tuple((1, 1, k) for k in range(7, -1, -1)),
    # no signs in them
    (None,), (True,), (0,), ("",), ("1.1.0",), ((),), ([],), ((1, 1),), ((0, 0),), ((1, 1, 0), None),
    (None, (1, 1, 0)), ((1, 1, 0), "a"), ((1, 1, 0), 1), ((1, 1, 0), (1, 1)), ((1, 1), (1, 1, 0)),
) + tuple((sign,) for sign in WRONG_SIGNS) + tuple(((1, 1, 0), sign) for sign in WRONG_SIGNS) + tuple(
    (sign, (4, 9, 9)) for sign in WRONG_SIGNS)

# signs that are neither a letter a to z nor a blank
WRONG_LETTERS = (
    "A", "Z", "M", "0", "1", "9", "-", "_", ".", ",", "+", "'", '"', "`", "{", "@", "[", "~", "!", "/", "\\", "\n",
    "\t", "\r", "\0", "\x0b", "\x1f", "\x7f", "\x85", "\xa0", "\xad", "\xe4", "\xdf", "\xe9", "\u0131", "\u0430",
    "\u2003", "\u2028", "\u212a", "\uff41", "\ud800", "\U0001d41a",
)

WRONG_WORDS = (
    True, False, 0, 1, -1, (), [], (None,), ("a",), ["a"], ("a", "b"), ["a", "b"], (("a",),),
    # empty, too long
    "", "abcdefghi", "a" * 9, "a" * 100,
    # blanks
    " ", "  ", " a", "a ", "a b", "abc def", "        ",
    # capitals
    "Ab", "aB", "ABC", "abcdefgH", "None", "True",
) + WRONG_LETTERS + tuple("a" + sign for sign in WRONG_LETTERS) + tuple(sign + "a" for sign in WRONG_LETTERS) + tuple(
    "abc" + sign + "def" for sign in WRONG_LETTERS)

WRONG_TEXTS = (
    None, True, False, 0, 1, -1, (), [], (None,), ("a",), ["a"], ("a", "b"), ["a", "b"], (("a",),),
    # empty, too long
    "", "abcdefghi", "a" * 9, " " * 9, "a" * 8 + " ", " " + "a" * 8, "a" * 100,
    # capitals
    "Ab", "aB", "A b", "ABC", "abcdefgH", "None",
) + WRONG_LETTERS + tuple("a" + sign for sign in WRONG_LETTERS) + tuple(sign + "a" for sign in WRONG_LETTERS) + tuple(
    "a b" + sign + " c" for sign in WRONG_LETTERS)

WRONG_RANKS = (0, -1, -BIG, True, False, None, "", "1", "a", (), [], (1,), [1], ((1,),), (1, 1), [1, 1], (None,))

WRONG_GUESTS = (
    0, 1, 5, 6, -1, -2, BIG, -BIG, True, False, None, "", "2", "a", (), [], (2,), [2], ((2,),), (2, 3), [2, 3], (None,),
)

# for each kind of part the right values, then the wrong ones
PARTS = {
    "block": (((0, 0), (1, 1), (4, 1), (2, 24), (3, 999999), (4, BIG)), WRONG_BLOCKS + (None,)),
    "behind": ((None, (0, 0), (1, 1), (4, 1), (2, 24), (3, BIG)), WRONG_BLOCKS),
    "sign": (((1, 1, 0), (4, 1, 0), (2, 7, 7), (3, 40, 8), (1, 999999, 999999), (4, BIG, BIG)), WRONG_SIGNS + (None,)),
    "place": ((None, (1, 1, 0), (4, 1, 0), (2, 7, 7), (3, 40, 8), (1, BIG, BIG)), WRONG_SIGNS),
    "signs": (
        (((1, 1, 0),), ((1, 1, 0), (1, 1, 1)), ((1, 9, 9), (1, 10, 0), (2, 1, 0)), ((1, 1, 9), (1, 1, 10)),
         ((1, 1, 0), (2, 1, 0), (3, 1, 0), (4, 1, 0)), ((1, 2, 3), (4, BIG, BIG)), tuple((2, 5, k) for k in range(7)),
         tuple((4, 2, k) for k in range(8)), tuple((3, k, 0) for k in range(1, 9))),
        WRONG_ROWS + (None,)),
    "word": (("a", "z", "az", "bold", "none", "say", "abcdefgh", "zzzzzzzz", "qrstuvwx", "ijklmnop", "y"),
             WRONG_WORDS + (None,)),
    "worth": ((None, "a", "z", "on", "red", "abcdefgh", "zzzzzzzz"), WRONG_WORDS),
    "text": (("a", "z", " ", "ab", " a", "a ", "a b", "  ", "        ", "abcdefgh", "ijklmnop", "qrstuvwx", "y z", "zzzzzzzz"),
             WRONG_TEXTS),
    "rank": ((1, 2, 7, 40, 999999, BIG), WRONG_RANKS),
    "guest": ((2, 3, 4), WRONG_GUESTS),
}

# for each of the thirteen words the kinds of the parts behind it
ACTS = {
    "write": ("block", "place", "place", "text"),
    "erase": ("signs",),
    "mark": ("sign", "sign", "word", "worth"),
    "note": ("sign", "sign", "text"),
    "block": ("block", "behind"),
    "move": ("block", "block", "behind"),
    "drop": ("block",),
    "undo": ("rank",),
    "redo": ("rank",),
    "bar": ("guest",),
    "let": ("guest",),
    "settle": (),
    "say": (),
}

# other things than parts, acts and deeds
ANYTHING = (
    True, False, None, 0, 1, -1, BIG, -BIG, "", "say", "settle", "write", "a" * 2000, "\ud800", (), [], ((),), ([],),
    [[]], [()], (None,), [None], (True,), (False,), (0,), ("",), ("a",), ("say", "say"), (("say",),), [("say",)],
    ("say", None), ("say", ()), ("say", []), (1, 1), (1, 1, 0), (0, 0, 0, 0), [0, 0, 0, 0], (1, 2, 3, 4),
    ((0, 0, 0, 0),) * 4, (("say",),) * 4, ("say",) * 4, (None,) * 4, (True,) * 4, ((),) * 4, ([],) * 4, [[], [], [], []],
    (1, 1, (0, 0, 0, 0)), ("act",), ("deed",), ("Say",), ("SAY",), ("say ",), (" say",), ("says",), ("sa",), ("",),
    ("write",), ("erase",), ("mark",), ("note",), ("block",), ("move",), ("drop",), ("undo",), ("redo",), ("bar",), ("let",),
    ("lock", 2), ("unblock", (1, 1)), ("insert", (0, 0), None, None, "a"), ("delete", ((1, 1, 0),)), (1,), (("say",), ()),
    (["say"],), (True, False), ("say", True), ("settle", False), ("settle", 1),
)


def right_act(word):
    """An act of this word whose parts are the first right ones."""
    return (word,) + tuple(PARTS[kind][0][0] for kind in ACTS[word])


def right_acts(word):
    """Acts of this word: each right value in each place, the others being the first ones."""
    base = right_act(word)
    acts = [base]
    for at, kind in enumerate(ACTS[word], start=1):
        for value in PARTS[kind][0]:
            acts.append(base[:at] + (value,) + base[at + 1:])
    return acts


def wrong_acts(word):
    """Values that are an act of this word but for one part, or for their number of parts."""
    base = right_act(word)
    acts = [list(base), base + (None,), base + ("a",), base + (1,), base + base, (base,), base + ((),)]
    acts += [base[:many] for many in range(1, len(base))] + [base[1:]]
    for at, kind in enumerate(ACTS[word], start=1):
        for value in PARTS[kind][1]:
            acts.append(base[:at] + (value,) + base[at + 1:])
    for other in (word.upper(), word.title(), word + " ", " " + word, word + "s", word[:-1], "", None, True, 1, (word,), [word]):
        acts.append((other,) + base[1:])
    return acts


def deed_of(act, hand=2, number=3):
    """A deed with this act."""
    seen = [5, 4, 0, 7]
    seen[hand - 1] = number - 1
    return (hand, number, tuple(seen), act)
