"""The texts of sayings, written and read."""

from fivecups.errors import BadText
from fivecups.sayings import folded

INSIDE = {"not": 1, "and": 2, "or": 2, "either": 2, "most": 3}


def text_of(part, inside):
    word = part[0]
    if word == "ask":
        return "q" + str(part[1])
    if word in INSIDE:
        return "(" + " ".join([word] + inside) + ")"
    return word


def show_saying(saying):
    return folded(saying, text_of)


def is_number(figures):
    if len(figures) > 3 or (len(figures) > 1 and figures[0] == "0"):
        return False
    return figures != "" and all([sign in "0123456789" for sign in figures])


def read_bare(word):
    if word in ("yes", "no"):
        return (word,)
    if word.startswith("q") and is_number(word[1:]):
        return ("ask", int(word[1:]))
    raise BadText(0)


def read_opened(word):
    if word not in INSIDE:
        raise BadText(0)
    return [word]


def close_last(rows):
    row = rows.pop()
    # The lowest row is no bracket's: it is there for the whole.
    if len(rows) == 0 or len(row) != 1 + INSIDE[row[0]]:
        raise BadText(0)
    rows[-1].append(tuple(row))


def read_saying(text):
    rows = [[]]
    for word in text.split(" "):
        if word.startswith("("):
            rows.append(read_opened(word[1:]))
        else:
            bare = word.rstrip(")")
            rows[-1].append(read_bare(bare))
            for bracket in word[len(bare) :]:
                close_last(rows)
    if len(rows) != 1 or len(rows[0]) != 1:
        raise BadText(0)
    return rows[0][0]
