"""The texts of dances, written and read."""

from fivecups.errors import BadText

FIGURES = "01234"


def in_a_row(numbers):
    return "".join([str(number) for number in numbers])


def show_step(step):
    return " ".join([str(step[0]), in_a_row(step[1]), in_a_row(step[2])])


def show_dance(dance):
    cups = dance[0]
    questions = dance[1]
    return "\n".join([f"cups {cups} questions {questions}"] + [show_step(step) for step in dance[2]])


def read_number(word, least, beyond, row):
    # Held against the numbers as they are written: so no nought ahead, no sign that is no figure
    # and no number of however many figures gets by.
    if word not in [str(number) for number in range(least, beyond)]:
        raise BadText(row)
    return int(word)


def from_a_row(word):
    return tuple([int(figure) for figure in word])


def is_turning_in_a_row(word, cups):
    return sorted(word) == list(FIGURES[:cups])


def read_turning(word, cups, row):
    if not is_turning_in_a_row(word, cups):
        raise BadText(row)
    return from_a_row(word)


def read_head(text):
    words = text.split(" ")
    if len(words) != 4 or words[0] != "cups" or words[2] != "questions":
        raise BadText(0)
    return (read_number(words[1], 3, 6, 0), read_number(words[3], 1, 11, 0))


def read_step(text, head, row):
    words = text.split(" ")
    if len(words) != 3:
        raise BadText(row)
    q = read_number(words[0], 0, head[1], row)
    return (q, read_turning(words[1], head[0], row), read_turning(words[2], head[0], row))


def read_dance(text):
    rows = text.split("\n")
    head = read_head(rows[0])
    steps = [read_step(rows[row], head, row) for row in range(1, len(rows))]
    return (head[0], head[1], tuple(steps))
