"""Lists in order, judged by the few numbers that a search by halves looks at."""

from fourread.basics import is_between, is_integer
from fourread.errors import InvalidList, InvalidNumber

LONGEST_LIST = 40


def check_list(numbers):
    """Raise InvalidList unless numbers is a sequence of 1 to 40 integers."""
    if not isinstance(numbers, (list, tuple)) or not 1 <= len(numbers) <= LONGEST_LIST:
        raise InvalidList(numbers)
    if not all([is_integer(number) for number in numbers]):
        raise InvalidList(numbers)


def way_to(length, place):
    """The middles that a search by halves for the place goes through, up to the place itself."""
    if not is_between(length, 1, LONGEST_LIST):
        raise InvalidNumber(length)
    if not is_between(place, 0, length - 1):
        raise InvalidNumber(place)
    low, high = 0, length - 1
    middles = []
    while place not in middles:
        middle = (low + high) // 2
        middles.append(middle)
        if place > middle:
            low = middle + 1
        else:
            high = middle - 1
    return tuple(middles)


def is_good(numbers, place):
    """Whether the numbers on the way to the place stand as they must to the number there."""
    check_list(numbers)
    for middle in way_to(len(numbers), place):
        low, high = min(middle, place), max(middle, place)
        if numbers[low] > numbers[high]:
            return False
    return True


def refused_places(numbers):
    """The places that are not good, ascending."""
    check_list(numbers)
    return tuple([place for place in range(len(numbers)) if not is_good(numbers, place)])


def least_left_out(numbers):
    """How few numbers can be left out so that the rest is in order."""
    check_list(numbers)
    # For each place, how many numbers in order, at most, can be chosen of those up to it, with it as the last one.
    chosen = []
    for number in numbers:
        ahead = [many for many, before in zip(chosen, numbers) if before <= number]
        chosen.append(1 + max(ahead, default=0))
    return len(numbers) - max(chosen)
