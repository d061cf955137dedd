"""Chains: what is left of a group by going there and back, again and again."""

from fivecups.groups import group
from fivecups.turnings import there_back


def there_backs(cups, turnings):
    found = {}
    for a in turnings:
        for b in turnings:
            found[there_back(a, b)] = True
    return group(cups, tuple(found))


def chain(cups, some):
    groups = [group(cups, some)]
    while len(groups[-1]) > 1:
        left = there_backs(cups, groups[-1])
        if left == groups[-1]:
            return ("lasting", tuple(groups))
        groups.append(left)
    return ("down", tuple(groups))
