"""Turnings: tuples by which the cup at place k goes to place turning[k]."""


def still(cups):
    return tuple(range(cups))


def then(one, other):
    return tuple([other[place] for place in one])


def back(turning):
    return tuple([turning.index(place) for place in range(len(turning))])


def about(turning, by):
    return then(then(back(by), turning), by)


def there_back(a, b):
    return then(then(a, b), then(back(a), back(b)))


def is_turning(cups, thing):
    return sorted(thing) == list(range(cups))
