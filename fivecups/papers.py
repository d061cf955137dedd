"""Papers: what is walked, without trying answers, to see that a dance does as a saying says."""

from fivecups.making import apart, is_ring_of_five, last_followed, made, pieces_in
from fivecups.spelled import spelled
from fivecups.turnings import back, still, there_back
from fivecups.walks import fold_within


def is_whole(thing):
    return isinstance(thing, int) and not isinstance(thing, bool)


def is_form(paper, word, many):
    return isinstance(paper, tuple) and len(paper) == many and paper[0] == word


def are_cuts(cuts, many):
    return all([is_whole(cut) for cut in cuts]) and 0 < cuts[0] < cuts[1] < cuts[2] < many


def is_any_ring_of_five(thing):
    # In a paper anything may stand there: what isn't numbers alone can't be sorted.
    return isinstance(thing, tuple) and all([is_whole(place) for place in thing]) and is_ring_of_five(thing)


def is_step_for(saying, ring, row):
    if len(row) != 1:
        return False
    if saying[0] == "ask":
        return row[0] == (saying[1], ring, still(5))
    if saying[0] == "yes":
        return row[0][1:] == (ring, ring)
    return saying[0] == "no" and row[0][1:] == (still(5), still(5))


def not_claims(saying, ring, row, paper):
    if saying[0] != "not" or len(row) == 0:
        return None
    return [(saying[1], back(ring), last_followed(row, back(ring)), paper[1])]


def and_claims(saying, ring, row, paper):
    a = paper[4]
    b = paper[5]
    if saying[0] != "and" or not are_cuts(paper[1:4], len(row)):
        return None
    if not is_any_ring_of_five(a) or not is_any_ring_of_five(b) or there_back(a, b) != ring:
        return None
    i = paper[1]
    j = paper[2]
    k = paper[3]
    there = [(saying[1], a, row[:i], paper[6]), (saying[2], b, row[i:j], paper[7])]
    return there + [(saying[1], back(a), row[j:k], paper[8]), (saying[2], back(b), row[k:], paper[9])]


def claims_in(saying, ring, row, paper):
    # The claims on which this one rests, or None where it misses.
    if is_form(paper, "step", 1):
        return [] if is_step_for(saying, ring, row) else None
    if is_form(paper, "not", 2):
        return not_claims(saying, ring, row, paper)
    if is_form(paper, "and", 10):
        return and_claims(saying, ring, row, paper)
    return None


def paper_holds(saying, ring, dance, paper):
    rest = [(spelled(saying), ring, dance[2], paper)]
    while rest:
        claim = rest.pop()
        inside = claims_in(claim[0], claim[1], claim[2], claim[3])
        if inside is None:
            return False
        rest.extend(inside)
    return True


def paper_of(piece, inside):
    # Told with how many steps the piece is made of, by which those behind it are counted.
    if piece[0][0] == "not":
        return (("not", inside[0][0]), inside[0][1])
    if piece[0][0] == "and":
        pair = apart(piece[1])
        i = inside[0][1]
        j = i + inside[1][1]
        k = j + inside[2][1]
        papers = tuple([told[0] for told in inside])
        return (("and", i, j, k, pair[0], pair[1]) + papers, k + inside[3][1])
    return (("step",), 1)


def made_with_paper(saying, questions, ring, most=128):
    dance = made(saying, questions, ring, most)
    paper = fold_within((spelled(saying), ring), pieces_in, paper_of)[0]
    return (dance, paper)
