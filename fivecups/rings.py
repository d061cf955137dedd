"""Rings: the rows of places round which a turning takes its cups."""


def row_from(turning, place):
    row = [place]
    while turning[row[-1]] != place:
        row.append(turning[row[-1]])
    return tuple(row)


def rings_of(turning):
    rows = [row_from(turning, place) for place in range(len(turning))]
    # Each ring is walked once from each of its places: the walk from the least one is kept,
    # and as those least places rise, the list is sorted as it comes.
    return [row for row in rows if len(row) > 1 and row[0] == min(row)]


def is_ring(turning):
    return [len(ring) for ring in rings_of(turning)] == [len(turning)]


def lower_behind(turning, place):
    return len([number for number in turning[place:] if number < turning[place]])


def is_even(turning):
    return sum([lower_behind(turning, place) for place in range(len(turning))]) % 2 == 0


def leading(one, other):
    # Laid side by side, the k-th place of the one ring is led to the k-th of the other.
    led = dict(zip(rings_of(one)[0], rings_of(other)[0]))
    return tuple([led[place] for place in range(len(one))])
