"""Sums: what a dance of three cups comes to by all answers, told without trying them.

A turning of three cups takes the one at x to the rest of c + e x by 3. A set of questions is a
rising tuple of their numbers.
"""


def sign(asked, answers):
    return 1 if sum([answers[q] for q in asked]) % 2 == 0 else 2


def come(sums, answers):
    c = sum([mark[1] * sign(mark[0], answers) for mark in sums[2]])
    e = (1 + sums[0]) * sign(sums[1], answers)
    return tuple([(c + e * x) % 3 for x in range(3)])


def flipped(asked, q):
    # A question asked twice has no sign: 2 times 2 leaves 1 by 3.
    if q in asked:
        return tuple([other for other in asked if other != q])
    return tuple(sorted(asked + (q,)))


def marks_of(pairs):
    # What belongs to one set is added, and where it comes to 0 there is no mark.
    numbers = {}
    for pair in pairs:
        numbers[pair[0]] = (numbers.get(pair[0], 0) + pair[1]) % 3
    return tuple([(asked, numbers[asked]) for asked in sorted(numbers) if numbers[asked] != 0])


def pairs_of_step(step, begin, flips):
    # A step's c is u + v by no and u - v by yes, v having the question's sign; to halve by 3 is
    # to double. The steps behind it, whose e begin and flips tell, turn both over alike.
    yes = step[1][0]
    no = step[2][0]
    times = 2 * (1 + begin)
    return [(flips, times * (no + yes)), (flipped(flips, step[0]), times * (no - yes))]


def e_of(turning):
    return (turning[1] - turning[0]) % 3


def sums_of(dance):
    begin = 0
    flips = ()
    pairs = []
    for step in reversed(dance[2]):
        pairs.extend(pairs_of_step(step, begin, flips))
        if e_of(step[2]) == 2:
            begin = 1 - begin
        if e_of(step[1]) != e_of(step[2]):
            flips = flipped(flips, step[0])
    return (begin, flips, marks_of(pairs))
