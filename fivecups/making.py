"""Making: a dance of five cups that comes to a ring where a saying is so, else to the still one."""

from fivecups.errors import NoRing, TooHeavy
from fivecups.rings import is_ring, leading
from fivecups.sayings import weight
from fivecups.spelled import spelled
from fivecups.turnings import about, back, is_turning, still, then, there_back
from fivecups.walks import fold_within

# Two rings of five whose there and back is a ring of five too: no two rings of fewer cups have one.
THERE = (1, 2, 3, 4, 0)
OVER = (1, 3, 0, 4, 2)


def apart(ring):
    # Turned about alike, two rings have their there and back turned about likewise.
    by = leading(there_back(THERE, OVER), ring)
    return (about(THERE, by), about(OVER, by))


def is_ring_of_five(thing):
    return is_turning(5, thing) and is_ring(thing)


def look_at_making(saying, ring, most):
    if not is_ring_of_five(ring):
        raise NoRing()
    if weight(saying) > most:
        raise TooHeavy(weight(saying))


def pieces_in(piece):
    # A piece is a spelled saying and the ring to which its steps come where it is so.
    saying = piece[0]
    ring = piece[1]
    if saying[0] == "not":
        return [(saying[1], back(ring))]
    if saying[0] == "and":
        pair = apart(ring)
        there = [(saying[1], pair[0]), (saying[2], pair[1])]
        return there + [(saying[1], back(pair[0])), (saying[2], back(pair[1]))]
    return []


def bare_step(saying, ring):
    if saying[0] == "ask":
        return (saying[1], ring, still(5))
    turning = ring if saying[0] == "yes" else still(5)
    return (0, turning, turning)


def last_followed(steps, turning):
    last = steps[-1]
    return steps[:-1] + ((last[0], then(last[1], turning), then(last[2], turning)),)


def steps_of(piece, inside):
    word = piece[0][0]
    if word == "not":
        return last_followed(inside[0], piece[1])
    if word == "and":
        # Where one of both isn't so, what the other does there is undone on the way back.
        return inside[0] + inside[1] + inside[2] + inside[3]
    return (bare_step(piece[0], piece[1]),)


def made(saying, questions, ring, most=128):
    look_at_making(saying, ring, most)
    return (5, questions, fold_within((spelled(saying), ring), pieces_in, steps_of))
