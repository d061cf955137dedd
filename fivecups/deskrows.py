"""The rows that a desk is told: what is none of them, as far as their words alone tell."""

from fivecups.dancetexts import is_turning_in_a_row
from fivecups.errors import NoRow

LETTERS = "abcdefghijklmnopqrstuvwxyz"
NUMBERS = ("1", "2", "3", "4", "5", "6", "7", "8", "9", "10")
# What stands behind a row's first word; by a kept name something must be kept already.
FORMS = {
    "make": ("new", "kept", "number", "figures"),
    "text": ("kept",),
    "do": ("kept", "answers"),
    "cut": ("kept",),
    "back": ("kept",),
    "alike": ("kept", "kept"),
    "marks": ("kept",),
}


def is_of_signs(word, signs):
    return all([sign in signs for sign in word])


def is_name(word):
    return 1 <= len(word) <= 6 and is_of_signs(word, LETTERS)


def is_of_form(word, form):
    if form == "number":
        return word in NUMBERS
    if form == "figures":
        return is_of_signs(word, "0123456789")
    if form == "answers":
        return is_of_signs(word, "01")
    return is_name(word)


def is_chain(words):
    if not 1 <= len(words) <= 5 or words[0] not in ("3", "4", "5"):
        return False
    return all([is_turning_in_a_row(word, int(words[0])) for word in words[1:]])


def is_row(first, words):
    if first in ("say", "dance"):
        return len(words) >= 2 and is_name(words[0])
    if first == "chain":
        return is_chain(words)
    if first not in FORMS or len(words) != len(FORMS[first]):
        return False
    return all([is_of_form(pair[0], pair[1]) for pair in zip(words, FORMS[first])])


def words_of(row):
    words = row.split(" ")
    if "\n" in row or "" in words or not is_row(words[0], words[1:]):
        raise NoRow()
    return words


def kept_names(words):
    # Rows that have no such form ask for nothing that is kept.
    forms = FORMS.get(words[0], ())
    return [pair[1] for pair in zip(forms, words[1:]) if pair[0] == "kept"]
