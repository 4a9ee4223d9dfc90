"""Sets of numbers as one whole number: n is in the set where the bit n is 1.

Such sets are cut and joined by a sign, and may stand in the key of a dict.
"""


def mask_of(numbers):
    """The set of these numbers."""
    told = 0
    for number in numbers:
        told |= 1 << number
    return told


def all_below(many):
    """The set of the numbers from 0 on, so many of them."""
    return (1 << many) - 1


def numbers_of(mask):
    """The numbers in the set, rising."""
    return [number for number in range(mask.bit_length()) if (mask >> number) & 1]


def how_many(mask):
    """How many numbers are in the set."""
    many = 0
    while mask:
        mask &= mask - 1
        many += 1
    return many


def least_of(mask):
    """The least number in the set, which is not empty."""
    return (mask & -mask).bit_length() - 1
