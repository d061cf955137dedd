"""Fewest: how many steps sums ask for at least, and the sums of a saying."""

from fivecups.doing import all_answers
from fivecups.sayings import is_so
from fivecups.sums import marks_of


def at_least(sums):
    return max((len(sums[2]) + 1) // 2, len(sums[1]))


def pairs_from(q, numbers):
    # The numbers belong to all answers, in order, to the questions from q on. By no they are
    # u + v, by yes u - v, v having the sign of q; to halve by 3 is to double.
    if len(numbers) == 1:
        return [((), numbers[0])]
    half = len(numbers) // 2
    sides = list(zip(numbers[:half], numbers[half:]))
    bare = pairs_from(q + 1, [2 * (side[0] + side[1]) for side in sides])
    signed = pairs_from(q + 1, [2 * (side[0] - side[1]) for side in sides])
    return bare + [((q,) + pair[0], pair[1]) for pair in signed]


def sums_of_saying(saying, questions):
    numbers = [1 if is_so(saying, answers) else 0 for answers in all_answers(questions)]
    return (0, (), marks_of(pairs_from(0, numbers)))
