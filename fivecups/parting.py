"""Parting: the least answers by which two dances of three cups come to unlike turnings."""

from fivecups.errors import OtherSizes
from fivecups.sums import marks_of, sums_of


def without(asked, q):
    return tuple([other for other in asked if other != q])


def sign_of_one(asked, q, answer):
    return 2 if answer == 1 and q in asked else 1


def answered_sums(sums, q, answer):
    turned = sign_of_one(sums[1], q, answer) == 2
    begin = 1 - sums[0] if turned else sums[0]
    pairs = [(without(mark[0], q), mark[1] * sign_of_one(mark[0], q, answer)) for mark in sums[2]]
    return (begin, without(sums[1], q), marks_of(pairs))


def parted(one, other):
    if one[1] != other[1]:
        raise OtherSizes()
    both = [sums_of(one), sums_of(other)]
    if both[0] == both[1]:
        return None
    answers = []
    for q in range(one[1]):
        # Sums that aren't the same are parted by some answers: so no need to try any.
        by_no = [answered_sums(sums, q, 0) for sums in both]
        answer = 0 if by_no[0] != by_no[1] else 1
        both = [answered_sums(sums, q, answer) for sums in both]
        answers.append(answer)
    return tuple(answers)
