"""Doing: the turnings to which a dance comes by answers."""

from fivecups.turnings import still, then


def turned_by(step, answers):
    return step[1] if answers[step[0]] == 1 else step[2]


def done_by_steps(dance, answers):
    told = []
    turning = still(dance[0])
    for step in dance[2]:
        turning = then(turning, turned_by(step, answers))
        told.append(turning)
    return told


def done(dance, answers):
    # The still one stands ahead of all steps, so it is the last where there are none.
    return ([still(dance[0])] + done_by_steps(dance, answers))[-1]


def all_answers(questions):
    told = [()]
    for question in range(questions):
        told = [(0,) + answers for answers in told] + [(1,) + answers for answers in told]
    return told


def table(dance):
    return tuple([done(dance, answers) for answers in all_answers(dance[1])])
