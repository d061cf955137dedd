"""Cutting: neighbours that ask the same question become one step, and still steps go."""

from fivecups.turnings import still, then


def together(one, other):
    return (one[0], then(one[1], other[1]), then(one[2], other[2]))


def cut(dance):
    nothing = (still(dance[0]), still(dance[0]))
    kept = []
    for step in dance[2]:
        # What is kept is cut already: only its last step can meet this one, and the one ahead of
        # that asks something else.
        new = together(kept.pop(), step) if kept and kept[-1][0] == step[0] else step
        if new[1:] != nothing:
            kept.append(new)
    return (dance[0], dance[1], tuple(kept))
