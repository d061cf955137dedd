"""Groups: all turnings that come by doing some of them, one behind the other, any of them any often."""

from fivecups.turnings import still, then


def words_by(cups, some):
    # Shorter words are walked ahead of longer ones, and of one length the least first: so the
    # word that comes to a turning first is the shortest, of several the least.
    told = {still(cups): ()}
    rest = [still(cups)]
    while rest:
        further = []
        for turning in rest:
            for number, one in enumerate(some):
                new = then(turning, one)
                if new not in told:
                    told[new] = told[turning] + (number,)
                    further.append(new)
        rest = further
    return told


def group(cups, some):
    return tuple(sorted(words_by(cups, some)))


def word(cups, some, turning):
    return words_by(cups, some).get(turning)
