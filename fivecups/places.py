"""Places: a saying of where a cup comes to."""

YES = ("yes",)
NO = ("no",)


def halvings(dance):
    told = 0
    reached = 1
    while reached < len(dance[2]):
        reached = reached * 2
        told = told + 1
    return told


def comes_by_step(step, i, j):
    by_yes = step[1][i] == j
    by_no = step[2][i] == j
    if by_yes and by_no:
        return YES
    if by_yes:
        return ("ask", step[0])
    return ("not", ("ask", step[0])) if by_no else NO


def any_of(sayings):
    # Halved again and again, so that five lie no more than three layers deep.
    if len(sayings) == 0:
        return NO
    if len(sayings) == 1:
        return sayings[0]
    half = len(sayings) // 2
    return ("or", any_of(sayings[:half]), any_of(sayings[half:]))


def comes_by(cups, steps, i, j):
    if len(steps) == 0:
        return YES if i == j else NO
    if len(steps) == 1:
        return comes_by_step(steps[0], i, j)
    half = len(steps) // 2
    ways = []
    for k in range(cups):
        first = comes_by(cups, steps[:half], i, k)
        second = comes_by(cups, steps[half:], k, j)
        # A place by which no answers lead would only make the saying longer.
        if first != NO and second != NO:
            ways.append(("and", first, second))
    return any_of(ways)


def comes_to(dance, i, j):
    return comes_by(dance[0], dance[2], i, j)
