"""Sumdances: a dance of three cups that has given sums."""

from fivecups.turnings import still

TURNS = {1: (1, 2, 0), 2: (2, 0, 1)}
OVER = (0, 2, 1)


def over_by(asked):
    return tuple([(q, OVER, still(3)) for q in asked])


def steps_of_mark(mark):
    # Where an odd number of its questions is answered yes, the cups are turned over ahead of the
    # turn and back behind it: so it turns them the other way round.
    turn = TURNS[mark[1]]
    return over_by(mark[0]) + ((0, turn, turn),) + over_by(mark[0])


def dance_of(sums, questions):
    # Flips turn over what stands ahead of them: so the marks stand behind.
    steps = over_by(sums[1])
    if sums[0] == 1:
        steps = steps + ((0, OVER, OVER),)
    for mark in sums[2]:
        steps = steps + steps_of_mark(mark)
    return (3, questions, steps)
