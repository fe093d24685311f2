"""Whole numbers and marks, told apart from any other thing."""

LETTERS = "abcdefghijklmnopqrstuvwxyz"
LONGEST_MARK = 8


def is_whole(thing):
    # True and False are ints to Python, but no whole numbers here.
    return isinstance(thing, int) and not isinstance(thing, bool)


def is_mark(thing):
    if not isinstance(thing, str):
        return False
    if not 1 <= len(thing) <= LONGEST_MARK:
        return False
    # Sign by sign, since islower and isalpha take letters beyond a to z.
    return all([sign in LETTERS for sign in thing])
