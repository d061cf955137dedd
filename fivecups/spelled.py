"""Spelled: a saying put in yes, no, ask, not and and alone."""

from fivecups.sayings import folded


def either_or_both(s, t):
    return ("not", ("and", ("not", s), ("not", t)))


def spelled_of(part, inside):
    word = part[0]
    if word in ("yes", "no", "ask"):
        return part
    if word == "or":
        return either_or_both(inside[0], inside[1])
    if word == "either":
        s = inside[0]
        t = inside[1]
        return either_or_both(("and", s, ("not", t)), ("and", ("not", s), t))
    if word == "most":
        s = inside[0]
        t = inside[1]
        return either_or_both(("and", s, t), ("and", inside[2], either_or_both(s, t)))
    return tuple([word] + inside)


def spelled(saying):
    return folded(saying, spelled_of)
