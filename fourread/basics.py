"""Integers, bits and rows of bits, as all modules check and count them."""

LONGEST_WORD = 12


def is_integer(value):
    """Whether value is an integer."""
    # Python counts True and False among the integers, the document does not.
    return isinstance(value, int) and not isinstance(value, bool)


def is_between(value, low, high):
    """Whether value is an integer from low to high."""
    return is_integer(value) and low <= value <= high


def are_bits(values):
    """Whether all values of a list or tuple are bits."""
    return all([is_between(value, 0, 1) for value in values])


def bits_number(bits):
    """The number of a row of bits, which may be empty, among those of its length."""
    number = 0
    for bit in bits:
        number = 2 * number + bit
    return number


def chosen_sums(parts):
    """The sums of the parts (numbers of words, or bits) that a word chooses, for all words in order."""
    sums = [0]
    # The last place changes fastest in the words' order, so it comes first here.
    for part in parts[::-1]:
        sums = sums + [part ^ known for known in sums]
    return sums
