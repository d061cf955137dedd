"""What several tests draw on."""

from itertools import permutations

CUPS = (3, 4, 5)


def turnings_of(cups):
    return list(permutations(range(cups)))


def every_turning():
    return [turning for cups in CUPS for turning in turnings_of(cups)]


def is_tuple_of_numbers(thing):
    return isinstance(thing, tuple) and all(
        isinstance(number, int) and not isinstance(number, bool) for number in thing
    )
