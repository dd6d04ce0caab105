"""Integers, bits, rows of bits and sequences, as all modules check and count them."""

LONGEST_WORD = 12


def is_integer(value):
    """Whether value is an integer."""
    # Python counts True and False among the integers, the document does not.
    return isinstance(value, int) and not isinstance(value, bool)


def is_between(value, low, high):
    """Whether value is an integer from low to high."""
    return is_integer(value) and low <= value <= high


def first_none(values, is_one_at):
    """The first place of a sequence at which is_one_at is not the case, or None; 0 if values is no sequence."""
    if not isinstance(values, (list, tuple)):
        return 0
    for place in range(len(values)):
        if not is_one_at(place):
            return place
    return None


def are_bits(values):
    """Whether all values of a list or tuple are bits."""
    return all([is_between(value, 0, 1) for value in values])


def is_row_of_bits(value, many):
    """Whether value is a tuple of so many bits."""
    return isinstance(value, tuple) and len(value) == many and are_bits(value)


def is_behind(values, at):
    """Whether the value at the place is greater than the one before it, if there is one."""
    return at == 0 or values[at - 1] < values[at]


def is_place_with_bit(value, n):
    """Whether value is a pair of a place below n and a bit."""
    if not isinstance(value, tuple) or len(value) != 2:
        return False
    place, bit = value
    return is_between(place, 0, n - 1) and is_between(bit, 0, 1)


def bits_number(bits):
    """The number of a row of bits, which may be empty, among those of its length."""
    number = 0
    for bit in bits:
        number = 2 * number + bit
    return number


def chosen_sums(parts):
    """The sums of the parts (numbers of words, or bits) that a word chooses, for all words in order."""
    sums = [0]
    # The last place changes fastest in the words' order, so it comes first here.
    for part in parts[::-1]:
        sums = sums + [part ^ known for known in sums]
    return sums


def reduced(number, kept):
    """The number, with kept ones of unlike first 1s added wherever it would have such a first 1."""
    rest = number
    for known in kept:
        # The lesser of both has 0 where known has its first 1.
        rest = min(rest, rest ^ known)
    return rest


def independent(numbers):
    """As few numbers as can be, of unlike first 1s, whose sums are those of these numbers."""
    kept = []
    for number in numbers:
        rest = reduced(number, kept)
        if rest != 0:
            kept.append(rest)
    return kept


def power(number, many):
    """The product of so many times this number."""
    found = 1
    for _ in range(many):
        found = found * number
    return found


def number_read(word, most):
    """The number, at most this one, that the word writes without a needless 0, or None."""
    written = [str(number) for number in range(most + 1)]
    return written.index(word) if word in written else None
