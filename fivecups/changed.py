"""Dances changed: set behind one another, turned back, turned about, asked anew, answered ahead."""

from fivecups.errors import OtherSizes
from fivecups.turnings import about, back


def behind(one, other):
    if one[:2] != other[:2]:
        raise OtherSizes()
    return (one[0], one[1], one[2] + other[2])


def turned_back(dance):
    steps = [(step[0], back(step[1]), back(step[2])) for step in reversed(dance[2])]
    return (dance[0], dance[1], tuple(steps))


def turned_about(dance, by):
    if len(by) != dance[0]:
        raise OtherSizes()
    steps = [(step[0], about(step[1], by), about(step[2], by)) for step in dance[2]]
    return (dance[0], dance[1], tuple(steps))


def asked_anew(dance, row, questions):
    steps = [(row[step[0]], step[1], step[2]) for step in dance[2]]
    return (dance[0], questions, tuple(steps))


def answered_step(step, q, answer):
    if step[0] != q:
        return step
    turning = step[1] if answer == 1 else step[2]
    return (q, turning, turning)


def answered(dance, q, answer):
    steps = [answered_step(step, q, answer) for step in dance[2]]
    return (dance[0], dance[1], tuple(steps))
