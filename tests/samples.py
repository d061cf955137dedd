"""What several tests draw on."""

import random
from itertools import combinations, permutations, product

CUPS = (3, 4, 5)
INSIDE = {"not": 1, "and": 2, "or": 2, "either": 2, "most": 3}
YES = ("yes",)
NO = ("no",)


def turnings_of(cups):
    return list(permutations(range(cups)))


def every_turning():
    return [turning for cups in CUPS for turning in turnings_of(cups)]


def is_tuple_of_numbers(thing):
    return isinstance(thing, tuple) and all(
        isinstance(number, int) and not isinstance(number, bool) for number in thing
    )


def answers_of(questions):
    return list(product((0, 1), repeat=questions))


def ask(q):
    return ("ask", q)


def put_of(inner):
    """Every word's sayings with sayings of a row in them, taken round and round."""
    told = []
    at = 0
    for word in INSIDE:
        for begin in range(len(inner)):
            told.append((word,) + tuple(inner[(begin + k * (begin + at)) % len(inner)] for k in range(INSIDE[word])))
            at += 1
    return told


def low_sayings():
    """Without a saying within, or with such ones within, of three questions at most."""
    bare = [YES, NO, ask(0), ask(1), ask(2)]
    every = [(word,) + inner for word in INSIDE for inner in product(bare, repeat=INSIDE[word])]
    return bare + every


def high_sayings():
    """With sayings of every word in sayings of every word, of three questions at most."""
    middle = put_of([YES, ask(2), ask(0), NO, ask(1)])
    return middle + put_of(middle)


def within(word, depth):
    """A word within itself, along its first and its last saying by turns."""
    told = ask(0)
    for k in range(depth):
        others = tuple(ask((k + j) % 3) for j in range(INSIDE[word] - 1))
        told = (word, told) + others if k % 2 == 0 else (word,) + others + (told,)
    return told


def widest_saying():
    """At both bounds: 24 parts, 6 of them within one another."""
    low = ("most", ask(0), ("not", ask(1)), ask(2))
    left = ("or", ("either", low, ask(1)), ("and", low, YES))
    return ("and", left, ("not", ("or", NO, low)))


def deep_sayings():
    return [within(word, 5) for word in INSIDE] + [widest_saying()]


def every_saying():
    return low_sayings() + high_sayings() + deep_sayings()


def good_steps(cups, questions, many):
    """All questions round and round, unlike turnings on both sides, no step still on both."""
    turnings = turnings_of(cups)
    count = len(turnings)
    return tuple((k % questions, turnings[(k * 5 + 1) % count], turnings[(k * 7 + 3) % count]) for k in range(many))


def plain_dance(cups, questions, many):
    return (cups, questions, good_steps(cups, questions, many))


def walked(dance, answers):
    """Where the cups stand behind each step: each cup is taken from place to place by itself."""
    places = list(range(dance[0]))
    told = [tuple(places)]
    for q, yes, no in dance[2]:
        for cup in range(dance[0]):
            places[cup] = yes[places[cup]] if answers[q] else no[places[cup]]
        told.append(tuple(places))
    return told


def comes(dance, answers):
    return walked(dance, answers)[-1]


def rings_of_five():
    """Every ring of five, told by a walk from place 0 through all places."""
    told = []
    for turning in turnings_of(5):
        row = [0]
        while turning[row[-1]] != 0:
            row.append(turning[row[-1]])
        if len(row) == 5:
            told.append(turning)
    return told


def is_saying(thing):
    """Of the form, tuples throughout, its questions whole numbers; walked without recursion."""
    rest = [thing]
    while rest:
        part = rest.pop()
        if not isinstance(part, tuple) or len(part) == 0 or not isinstance(part[0], str):
            return False
        if part[0] == "ask":
            if len(part) != 2 or not is_tuple_of_numbers(part[1:]) or part[1] < 0:
                return False
        elif part[0] in INSIDE:
            if len(part) != 1 + INSIDE[part[0]]:
                return False
            rest.extend(part[1:])
        elif part not in (YES, NO):
            return False
    return True


def is_dance(thing):
    """Let by, told by its words alone: the numbers, the steps, the turnings, tuples throughout."""
    if not isinstance(thing, tuple) or len(thing) != 3 or not is_tuple_of_numbers(thing[:2]):
        return False
    cups, questions, steps = thing
    if cups not in CUPS or not 1 <= questions <= 10 or not isinstance(steps, tuple):
        return False
    for step in steps:
        if not isinstance(step, tuple) or len(step) != 3 or not is_tuple_of_numbers(step[:1]):
            return False
        if not 0 <= step[0] < questions:
            return False
        if not all(is_tuple_of_numbers(side) and sorted(side) == list(range(cups)) for side in step[1:]):
            return False
    return True


def is_even(turning):
    """As many rings, bare places counted too, as the cups but for an even number."""
    rest = set(range(len(turning)))
    rounds = 0
    while rest:
        place = rest.pop()
        rounds += 1
        while turning[place] in rest:
            place = turning[place]
            rest.remove(place)
    return (len(turning) - rounds) % 2 == 0


def bad_rings():
    """Tuples of whole numbers that are no rings of five."""
    ring = (1, 2, 3, 4, 0)
    return (
        (),
        (0,),
        ring[:4],
        (1, 2, 0),
        (1, 2, 3, 0),
        ring + (5,),
        (1, 2, 3, 4, 5, 0),
        ring + ring,
        (1, 2, 3, 4, 1),
        (1, 1, 3, 4, 0),
        (1, 2, 3, 4, -5),
        (-4, 2, 3, 4, 0),
        (-1, -2, -3, -4, -5),
        (1, 2, 3, 4, 5),
        (1, 2, 3, 10**20, 0),
        (0, 1, 2, 3, 4),
        (1, 0, 3, 4, 2),
        (2, 0, 1, 4, 3),
        (1, 0, 2, 3, 4),
        (1, 2, 3, 0, 4),
        (1, 0, 3, 2, 4),
        (1, 2, 0, 3, 4),
    )


def nots(saying, many):
    for k in range(many):
        saying = ("not", saying)
    return saying


def with_questions(questions, first=0, word="and"):
    """Each question once, ands and ors by turns, as flat as can be: of a weight of at most 112."""
    if questions == 1:
        return ask(first)
    half = questions // 2
    other = "or" if word == "and" else "and"
    return (word, with_questions(half, first, other), with_questions(questions - half, first + half, other))


def heaviest_sayings():
    """Of a weight of 124: no saying has one of 125 to 128."""
    ten = ("or", ("and", ask(0), ("not", ask(1))), ask(2))
    most = ("most", ask(0), ask(1), ask(2))
    return [
        ("and", ("or", ask(0), ask(2)), ("and", most, ("not", ask(1)))),
        ("or", ("either", ask(0), ("not", ask(1))), ("not", ("or", ("and", ten, YES), ask(2)))),
        ("or", ("and", most, ask(0)), ("not", ("or", ask(1), ask(2)))),
    ]


def light_sayings():
    """With sayings of every word in sayings of every word, of a weight of at most 128."""
    every = high_sayings() + deep_sayings() + heaviest_sayings()
    return [saying for saying in every if weighed(saying) <= 128]


def weighed(saying):
    word, inner = saying[0], saying[1:]
    if word in ("yes", "no", "ask"):
        return 1
    weights = [weighed(part) for part in inner]
    times = {"not": (1,), "and": (2, 2), "or": (2, 2), "either": (8, 8), "most": (12, 12, 4)}
    return sum(one * many for one, many in zip(weights, times[word]))


def one_then(one, other):
    return tuple(other[one[cup]] for cup in range(len(one)))


def backwards(turning):
    told = [0] * len(turning)
    for cup, place in enumerate(turning):
        told[place] = cup
    return tuple(told)


def closed(cups, some):
    """The group, walked as a set: what is found is done by each of the some till nothing comes anew."""
    found = {tuple(range(cups))}
    while True:
        more = found | {one_then(turning, one) for turning in found for one in some}
        if more == found:
            return found
        found = more


def some_turnings():
    """None to four turnings of as many cups, alike and still ones among them: (cups, some)."""
    chance = random.Random(26)
    told = []
    for cups in CUPS:
        turnings = turnings_of(cups)
        stays, ring, swap = turnings[0], tuple(range(1, cups)) + (0,), (1, 0) + tuple(range(2, cups))
        told += [(cups, some) for some in ((), (stays,), (stays, stays), (stays, ring, stays), (swap, ring, swap))]
        told += [(cups, (ring, swap)), (cups, (ring, ring, ring, ring)), (cups, (ring, backwards(ring)))]
        told += [(cups, (turning,)) for turning in turnings]
        for many in (2, 3, 4):
            told += [(cups, tuple(chance.choice(turnings) for k in range(many))) for again in range(12)]
            even = [turning for turning in turnings if is_even(turning)]
            told += [(cups, tuple(chance.choice(even) for k in range(many))) for again in range(6)]
    return told


def there_and_back(a, b):
    """Cup by cup: a, then b, then a backwards, then b backwards."""
    return tuple(b.index(a.index(b[place])) for place in a)


def there_backs_of(turnings):
    return {there_and_back(a, b) for a, b in product(turnings, repeat=2)}


def is_group(thing):
    """A rising tuple of turnings, each once."""
    turnings = isinstance(thing, tuple) and all(is_tuple_of_numbers(one) for one in thing)
    return turnings and thing == tuple(sorted(set(thing)))


def chance_dance(chance, cups, questions, many):
    turnings = turnings_of(cups)
    steps = [(chance.randrange(questions), chance.choice(turnings), chance.choice(turnings)) for k in range(many)]
    return (cups, questions, tuple(steps))


def all_sets(questions):
    return sorted(picked for many in range(questions + 1) for picked in combinations(range(questions), many))


def chance_sums(chance, questions, marks):
    """Sums of so many marks, or of all sets where there are fewer."""
    sets = all_sets(questions)
    picked = sorted(chance.sample(sets, min(marks, len(sets))))
    return (chance.randrange(2), chance.choice(sets), tuple((one, chance.choice((1, 2))) for one in picked))


def is_set(thing):
    return is_tuple_of_numbers(thing) and list(thing) == sorted(set(thing))


def is_sums(thing):
    """Of the form of point 30, tuples throughout."""
    if not isinstance(thing, tuple) or len(thing) != 3 or not is_tuple_of_numbers(thing[:1]):
        return False
    begin, flips, marks = thing
    if begin not in (0, 1) or not is_set(flips) or not isinstance(marks, tuple) or list(marks) != sorted(marks):
        return False
    for mark in marks:
        if not isinstance(mark, tuple) or len(mark) != 2 or not is_set(mark[0]):
            return False
        if not is_tuple_of_numbers(mark[1:]) or mark[1] not in (1, 2):
            return False
    return len({mark[0] for mark in marks}) == len(marks)


def reckoned(sums, answers):
    """Point 30 word by word, each cup by itself."""
    begin, flips, marks = sums

    def sign(some):
        return 1 if len([q for q in some if answers[q] == 1]) in range(0, 11, 2) else 2

    e = sign(flips)
    if begin == 1:
        e = {1: 2, 2: 1}[e]
    c = 0
    for some, number in marks:
        c = (c + number * sign(some)) % 3
    return tuple((c + e * x) % 3 for x in range(3))


def is_whole(thing):
    return is_tuple_of_numbers((thing,))


def all_of(sayings):
    told = sayings[0]
    for saying in sayings[1:]:
        told = ("and", told, saying)
    return told


def depth(saying):
    return 1 + max([depth(one) for one in saying[1:] if isinstance(one, tuple)], default=0)


def saying_of_parts(chance, questions, parts):
    words = [word for word in INSIDE if INSIDE[word] < parts]
    if not words:
        return chance.choice((YES, NO) + tuple(ask(chance.randrange(questions)) for k in range(8)))
    word = chance.choice(words)
    rest = parts - 1
    inner = []
    for left in range(INSIDE[word] - 1, 0, -1):
        inner.append(chance.randint(1, rest - left))
        rest -= inner[-1]
    return (word,) + tuple(saying_of_parts(chance, questions, share) for share in inner + [rest])


def chance_saying(chance, questions, parts):
    """Of just so many parts, any words, at most six of them within one another."""
    told = saying_of_parts(chance, questions, parts)
    while depth(told) > 6:
        told = saying_of_parts(chance, questions, parts)
    return told


def so_by_words(saying, answers):
    word = saying[0]
    if word == "ask":
        return answers[saying[1]] == 1
    so = [so_by_words(one, answers) for one in saying[1:]]
    least = {"yes": 0, "no": 1, "not": 0, "and": 2, "or": 1, "either": 1, "most": 2}[word]
    most = {"not": 0, "either": 1}.get(word, 3)
    return least <= sum(so) <= most
