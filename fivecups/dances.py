"""Dances: (cups, questions, steps), each step a question's number and two turnings."""

from fivecups.errors import NoDance
from fivecups.turnings import is_turning


def look_at_step(dance, at):
    cups = dance[0]
    step = dance[2][at]
    if not 0 <= step[0] < dance[1]:
        raise NoDance("question", at)
    if not is_turning(cups, step[1]):
        raise NoDance("yes", at)
    if not is_turning(cups, step[2]):
        raise NoDance("no", at)


def look(dance):
    if not 3 <= dance[0] <= 5:
        raise NoDance("cups", -1)
    if not 1 <= dance[1] <= 10:
        raise NoDance("questions", -1)
    for at in range(len(dance[2])):
        look_at_step(dance, at)
    return True
