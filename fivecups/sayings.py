"""Sayings: nested tuples that are so, or aren't, by the answers to questions."""

from fivecups.walks import all_within, fold_within

LAYERS_MORE = {"yes": 0, "no": 0, "ask": 0, "not": 0, "and": 1, "or": 1, "either": 2, "most": 3}


def inner(saying):
    return () if saying[0] == "ask" else saying[1:]


def all_parts(saying):
    return all_within(saying, inner)


def folded(saying, put):
    return fold_within(saying, inner, put)


def so_by(answers, part, inside):
    word = part[0]
    if word == "ask":
        return answers[part[1]] == 1
    if word == "not":
        return not inside[0]
    if word == "and":
        return inside[0] and inside[1]
    if word == "or":
        return inside[0] or inside[1]
    if word == "either":
        return inside[0] != inside[1]
    if word == "most":
        return inside.count(True) >= 2
    return word == "yes"


def is_so(saying, answers):
    return folded(saying, lambda part, inside: so_by(answers, part, inside))


def parts(saying):
    return len(all_parts(saying))


def layers_of(part, inside):
    return LAYERS_MORE[part[0]] + max(inside, default=0)


def layers(saying):
    return folded(saying, layers_of)


def weight_of(part, inside):
    word = part[0]
    if word == "not":
        return inside[0]
    if word in ("and", "or"):
        return 2 * (inside[0] + inside[1])
    if word == "either":
        return 8 * (inside[0] + inside[1])
    if word == "most":
        return 12 * (inside[0] + inside[1]) + 4 * inside[2]
    return 1


def weight(saying):
    return folded(saying, weight_of)


def questions_in(saying):
    return sorted(set([part[1] for part in all_parts(saying) if part[0] == "ask"]))
