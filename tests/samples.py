"""What several tests draw on."""

from itertools import permutations, product

CUPS = (3, 4, 5)
INSIDE = {"not": 1, "and": 2, "or": 2, "either": 2, "most": 3}
YES = ("yes",)
NO = ("no",)


def turnings_of(cups):
    return list(permutations(range(cups)))


def every_turning():
    return [turning for cups in CUPS for turning in turnings_of(cups)]


def is_tuple_of_numbers(thing):
    return isinstance(thing, tuple) and all(
        isinstance(number, int) and not isinstance(number, bool) for number in thing
    )


def answers_of(questions):
    return list(product((0, 1), repeat=questions))


def ask(q):
    return ("ask", q)


def put_of(inner):
    """Every word's sayings with sayings of a row in them, taken round and round."""
    told = []
    at = 0
    for word in INSIDE:
        for begin in range(len(inner)):
            told.append((word,) + tuple(inner[(begin + k * (begin + at)) % len(inner)] for k in range(INSIDE[word])))
            at += 1
    return told


def low_sayings():
    """Without a saying within, or with such ones within, of three questions at most."""
    bare = [YES, NO, ask(0), ask(1), ask(2)]
    every = [(word,) + inner for word in INSIDE for inner in product(bare, repeat=INSIDE[word])]
    return bare + every


def high_sayings():
    """With sayings of every word in sayings of every word, of three questions at most."""
    middle = put_of([YES, ask(2), ask(0), NO, ask(1)])
    return middle + put_of(middle)


def within(word, depth):
    """A word within itself, along its first and its last saying by turns."""
    told = ask(0)
    for k in range(depth):
        others = tuple(ask((k + j) % 3) for j in range(INSIDE[word] - 1))
        told = (word, told) + others if k % 2 == 0 else (word,) + others + (told,)
    return told


def widest_saying():
    """At both bounds: 24 parts, 6 of them within one another."""
    low = ("most", ask(0), ("not", ask(1)), ask(2))
    left = ("or", ("either", low, ask(1)), ("and", low, YES))
    return ("and", left, ("not", ("or", NO, low)))


def deep_sayings():
    return [within(word, 5) for word in INSIDE] + [widest_saying()]


def every_saying():
    return low_sayings() + high_sayings() + deep_sayings()
