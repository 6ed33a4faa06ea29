"""What a whole number, a worth, a name and a rising tuple are.

All of these are asked of anything. So each looks first at what kind of value it has, and compares only then:
a strange value may answer a comparison with anything.
"""

GREATEST_WORTH = 1000000000
LONGEST_NAME = 8
SMALL_LETTERS = "abcdefghijklmnopqrstuvwxyz"


def is_whole(value):
    return isinstance(value, int) and not isinstance(value, bool)


def is_within(value, greatest):
    return is_whole(value) and -greatest <= value <= greatest


def is_worth(value):
    return is_within(value, GREATEST_WORTH)


def is_name(value):
    if not isinstance(value, str) or not 1 <= len(value) <= LONGEST_NAME:
        return False
    return all([sign in SMALL_LETTERS for sign in value])


def is_tuple_of(value, many):
    return isinstance(value, tuple) and len(value) == many


def are_whole(values):
    return isinstance(values, tuple) and all([is_whole(value) for value in values])


def is_rising(values):
    return are_whole(values) and all([one < other for one, other in zip(values, values[1:])])
