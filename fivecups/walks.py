"""Walks over what lies within one another, told by a function that tells what lies in each part."""


def all_within(whole, inside_of):
    # A row of what is still to be walked, and no recursion: parts may lie within one another
    # far deeper than calls may.
    found = []
    rest = [whole]
    while rest:
        part = rest.pop()
        found.append(part)
        rest.extend(list(reversed(inside_of(part))))
    return found


def fold_within(whole, inside_of, put):
    # Walked from its end, the row of parts has all that lies in a part ahead of it, the first
    # of them last: so they are taken off in their order.
    told = []
    for part in reversed(all_within(whole, inside_of)):
        inside = [told.pop() for one in inside_of(part)]
        told.append(put(part, inside))
    return told[0]
