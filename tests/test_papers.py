import random
import unittest

from fivecups.dances import look
from fivecups.errors import CupError, NoRing, TooHeavy
from fivecups.making import made
from fivecups.papers import made_with_paper, paper_holds
from fivecups.sayings import is_so, weight
from fivecups.spelled import spelled
from tests.samples import (
    INSIDE,
    NO,
    YES,
    answers_of,
    ask,
    backwards,
    bad_rings,
    comes,
    every_saying,
    heaviest_sayings,
    is_dance,
    is_even,
    is_tuple_of_numbers,
    light_sayings,
    low_sayings,
    nots,
    one_then,
    rings_of_five,
    there_and_back,
    turnings_of,
    with_questions,
)

STILL = (0, 1, 2, 3, 4)
RING = (1, 2, 3, 4, 0)
OTHER_RING = (2, 0, 4, 1, 3)
STEP = ("step",)
RINGS = rings_of_five()


def pairs_by_ring():
    told = {}
    for a in RINGS:
        for b in RINGS:
            told.setdefault(there_and_back(a, b), []).append((a, b))
    return told


PAIRS = pairs_by_ring()


def last_behind(row, turning):
    return row[:-1] + tuple((q, one_then(yes, turning), one_then(no, turning)) for q, yes, no in row[-1:])


def is_number(thing):
    return is_tuple_of_numbers((thing,))


def holds(saying, ring, row, paper):
    """Point 18, form by form, of a spelled saying."""
    if paper == STEP:
        if len(row) != 1 or saying[0] not in ("yes", "no", "ask"):
            return False
        q, yes, no = row[0]
        if saying == YES:
            return yes == no == ring
        if saying == NO:
            return yes == no == STILL
        return (q, yes, no) == (saying[1], ring, STILL)
    if not isinstance(paper, tuple) or len(paper) not in (2, 10) or paper[0] != saying[0]:
        return False
    if len(paper) == 2:
        about = backwards(ring)
        return saying[0] == "not" and row != () and holds(saying[1], about, last_behind(row, about), paper[1])
    i, j, k, a, b = paper[1:6]
    if saying[0] != "and" or not is_number(i) or not is_number(j) or not is_number(k):
        return False
    if not (1 <= i and i + 1 <= j and j + 1 <= k and k <= len(row) - 1):
        return False
    if a not in RINGS or b not in RINGS or there_and_back(a, b) != ring:
        return False
    rows = (row[:i], row[i:j], row[j:k], row[k:])
    sides = (saying[1:] * 2, (a, b, backwards(a), backwards(b)))
    return all(holds(*claim) for claim in zip(*sides, rows, paper[6:]))


def build(saying, ring, pick):
    """Steps and a paper of another's hand: any pair of rings, any question where none is asked."""
    word = saying[0]
    if word == "not":
        row, paper = build(saying[1], backwards(ring), pick)
        return last_behind(row, ring), ("not", paper)
    if word == "and":
        a, b = pick(PAIRS[ring])
        sides = zip(saying[1:] * 2, (a, b, backwards(a), backwards(b)))
        told = [build(part, side, pick) for part, side in sides]
        rows = [row for row, paper in told]
        cuts = tuple(len(sum(rows[:k], ())) for k in (1, 2, 3))
        return sum(rows, ()), ("and",) + cuts + (a, b) + tuple(paper for row, paper in told)
    if word == "ask":
        return ((saying[1], ring, STILL),), STEP
    turning = ring if word == "yes" else STILL
    return ((pick((0, 1, 2)), turning, turning),), STEP


def tuples_in(paper):
    return 1 + sum(tuples_in(part) for part in paper if isinstance(part, tuple)) if isinstance(paper, tuple) else 0


def depth_of(paper):
    return 1 + max([depth_of(part) for part in paper if isinstance(part, tuple)], default=0)


def changed_at_one_place(paper, others):
    """Each paper that has one of the others in one place, at the top or anywhere within."""
    told = list(others)
    for at in range(len(paper)):
        inside = changed_at_one_place(paper[at], others) if isinstance(paper[at], tuple) else others
        told += [paper[:at] + (other,) + paper[at + 1 :] for other in inside]
        told.append(paper[:at] + paper[at + 1 :])
        told.append(paper[:at] + paper[at : at + 1] + paper[at:])
    return told + [paper + (paper,)]


def some_papers(chance, many):
    """Any tuples built of tuples, texts, whole numbers; of the words and shapes of papers most often."""
    bare = ["step", "not", "and", "", "x", "yes", 0, 1, 2, 3, 4, -1, 10**20, (), STEP, RING, OTHER_RING, STILL]
    told = [(), STEP]
    for k in range(many):
        word = chance.choice(("step", "not", "and", "and", 0, ()))
        count = chance.choice({"step": (0, 0, 1), "not": (1, 1, 2), "and": (9, 9, 8)}.get(word, (0, 1, 2, 9)))
        inside = [chance.choice(bare + told[-30:]) for n in range(count)]
        if count == 9 and chance.random() < 0.7:
            inside[:3] = sorted(chance.sample(range(1, 6), 3))
            inside[3:5] = chance.choice(PAIRS[chance.choice((RING, OTHER_RING))])
        told.append((word,) + tuple(inside))
    return told


class WithPaperTest(unittest.TestCase):
    def assert_made_with_paper(self, saying, questions, ring):
        told = made_with_paper(saying, questions, ring)
        self.assertIsInstance(told, tuple)
        dance, paper = told
        self.assertTrue(is_dance(dance), dance)
        self.assertIs(look(dance), True)
        self.assertEqual(dance[:2], (5, questions))
        self.assertTrue(1 <= len(dance[2]) <= weight(saying))
        self.assertTrue(all(is_even(yes) and is_even(no) for q, yes, no in dance[2]))
        for answers in answers_of(questions):
            self.assertEqual(comes(dance, answers), ring if is_so(saying, answers) else STILL)
        self.assertEqual(dance, made(saying, questions, ring))
        self.assertIs(paper_holds(saying, ring, dance, paper), True)
        self.assertTrue(holds(spelled(saying), ring, dance[2], paper))
        self.assertEqual(made_with_paper(saying, questions, ring), told)

    def test_each_word_for_every_ring(self):
        for ring in RINGS:
            for saying in (YES, NO, ask(0), ask(2), ("not", YES), ("not", NO)):
                self.assert_made_with_paper(saying, 3, ring)
            for word in INSIDE:
                self.assert_made_with_paper((word,) + (ask(0), ask(1), ask(2))[: INSIDE[word]], 3, ring)

    def test_each_word_of_all_bare_sayings(self):
        for k, saying in enumerate(low_sayings()):
            self.assert_made_with_paper(saying, 3, RINGS[k % 24])

    def test_sayings_within_one_another(self):
        for k, saying in enumerate(light_sayings()):
            self.assert_made_with_paper(saying, 3, RINGS[(k * 7 + 2) % 24])

    def test_one_to_ten_questions(self):
        for questions in range(1, 11):
            for saying in (YES, ask(questions - 1), with_questions(questions)):
                self.assert_made_with_paper(saying, questions, OTHER_RING)

    def test_tuples_throughout(self):
        for saying in heaviest_sayings():
            rest = [made_with_paper(saying, 3, RING)[1]]
            while rest:
                part = rest.pop()
                self.assertIn(part.__class__, (tuple, int, str))
                rest.extend(part if isinstance(part, tuple) else ())

    def test_however_many_within_one_another(self):
        for many in (1, 58, 59, 60, 5000, 5001):
            for saying in (ask(1), ("and", nots(ask(0), many), ask(1))):
                deep = nots(saying, many)
                dance, paper = made_with_paper(deep, 2, RING)
                self.assertIs(paper_holds(deep, RING, dance, paper), True)
                self.assertIs(paper_holds(deep[1], RING, dance, paper), False)
                self.assertIs(paper_holds(("not", deep), RING, dance, paper), False)
                for answers in answers_of(2):
                    self.assertEqual(comes(dance, answers), RING if is_so(deep, answers) else STILL)


class RefusedTest(unittest.TestCase):
    def refusal(self, *handed):
        with self.assertRaises(CupError, msg=repr(handed)) as caught:
            made_with_paper(*handed)
        return caught.exception

    def test_no_ring(self):
        heavy = ("most", ask(0), ask(0), ("most", ask(0), ask(0), ask(0)))
        for ring in bad_rings():
            for saying in (YES, NO, ask(0), ("and", ask(0), ask(0)), heavy):
                self.assertIs(self.refusal(saying, 1, ring).__class__, NoRing)
                self.assertIs(self.refusal(saying, 1, ring, 1).__class__, NoRing)
        for turning in turnings_of(5):
            if turning not in RINGS:
                self.assertIs(self.refusal(YES, 1, turning).__class__, NoRing)

    def test_too_heavy(self):
        for saying in every_saying():
            heavy = weight(saying)
            if heavy > 1:
                refusal = self.refusal(saying, 3, RING, min(heavy - 1, 128))
                self.assertIs(refusal.__class__, TooHeavy)
                self.assertEqual(refusal.weight, heavy)
            if heavy <= 128:
                self.assertEqual(made_with_paper(saying, 3, RING, heavy), made_with_paper(saying, 3, RING))

    def test_most_left_out_is_128(self):
        either = ("either", ask(0), ask(1))
        refusal = self.refusal(("or", ("and", either, either), NO), 2, RING)
        self.assertEqual((refusal.__class__, refusal.weight), (TooHeavy, 130))
        self.assertEqual(made_with_paper.__defaults__, (128,))


class HoldsTest(unittest.TestCase):
    def assert_as_told(self, saying, ring, dance, paper):
        told = paper_holds(saying, ring, dance, paper)
        self.assertIs(told, holds(spelled(saying), ring, dance[2], paper), (saying, ring, dance, paper))
        if told:
            for answers in answers_of(dance[1]):
                self.assertEqual(comes(dance, answers), ring if is_so(saying, answers) else STILL)
        return told

    def test_papers_of_another_hand(self):
        chance = random.Random(18)
        unlike = 0
        for k, saying in enumerate(low_sayings() + light_sayings()):
            ring = RINGS[k % 24]
            steps, paper = build(spelled(saying), ring, chance.choice)
            dance = (5, 3, steps)
            unlike += dance != made(saying, 3, ring)
            self.assertTrue(self.assert_as_told(saying, ring, dance, paper))
            self.assertTrue(self.assert_as_told(spelled(saying), ring, dance, paper))
        self.assertGreater(unlike, 100)

    def test_each_step_by_itself(self):
        turnings = (STILL, RING, backwards(RING), OTHER_RING, (1, 0, 2, 3, 4))
        for saying in (YES, NO, ask(0), ask(1), ("not", ask(0)), ("and", ask(0), ask(1)), nots(ask(0), 2)):
            for q in (0, 1):
                for yes in turnings:
                    for no in turnings:
                        step = (q, yes, no)
                        for row in ((), (step,), (step, step), (step, (0, STILL, STILL))):
                            for paper in (STEP, ("not", STEP), ("not", ("not", STEP))):
                                self.assert_as_told(saying, RING, (5, 2, row), paper)

    def test_steps_written_out(self):
        self.assertIs(paper_holds(YES, RING, (5, 2, ((1, RING, RING),)), STEP), True)
        self.assertIs(paper_holds(YES, RING, (5, 2, ((1, RING, STILL),)), STEP), False)
        self.assertIs(paper_holds(YES, RING, (5, 2, ((1, STILL, RING),)), STEP), False)
        self.assertIs(paper_holds(NO, RING, (5, 2, ((1, STILL, STILL),)), STEP), True)
        self.assertIs(paper_holds(NO, RING, (5, 2, ((1, STILL, RING),)), STEP), False)
        self.assertIs(paper_holds(NO, RING, (5, 2, ((1, RING, STILL),)), STEP), False)
        self.assertIs(paper_holds(ask(1), RING, (5, 2, ((1, RING, STILL),)), STEP), True)
        self.assertIs(paper_holds(ask(0), RING, (5, 2, ((1, RING, STILL),)), STEP), False)
        self.assertIs(paper_holds(ask(1), OTHER_RING, (5, 2, ((1, RING, STILL),)), STEP), False)
        self.assertIs(paper_holds(ask(1), RING, (5, 2, ((1, STILL, RING),)), STEP), False)
        self.assertIs(paper_holds(("not", ask(1)), RING, (5, 2, ((1, STILL, RING),)), ("not", STEP)), True)
        self.assertIs(paper_holds(("not", ask(1)), RING, (5, 2, ((1, STILL, RING),)), STEP), False)
        self.assertIs(paper_holds(ask(1), RING, (5, 2, ((1, STILL, RING),)), ("not", STEP)), False)

    def test_a_row_of_no_steps(self):
        for saying in (YES, NO, ask(0), ("not", YES), ("not", NO), ("and", NO, NO), ("or", NO, NO)):
            for paper in (STEP, ("not", STEP), made_with_paper(saying, 1, RING)[1]):
                self.assertIs(paper_holds(saying, RING, (5, 1, ()), paper), False)

    def test_a_step_too_many_or_too_few_or_exchanged(self):
        for saying in (ask(0), ("not", ask(0)), ("and", ask(0), ask(1)), ("either", ask(0), ask(1))):
            (cups, questions, steps), paper = made_with_paper(saying, 2, RING)
            more = ((0, STILL, STILL), (0, RING, RING), (1, RING, backwards(RING)))
            for at in range(len(steps) + 1):
                for step in more:
                    dance = (5, 2, steps[:at] + (step,) + steps[at:])
                    self.assertFalse(self.assert_as_told(saying, RING, dance, paper))
            for at in range(len(steps)):
                self.assertFalse(self.assert_as_told(saying, RING, (5, 2, steps[:at] + steps[at + 1 :]), paper))
                swapped = steps[:at] + steps[at : at + 2][::-1] + steps[at + 2 :]
                if swapped != steps:
                    self.assertFalse(self.assert_as_told(saying, RING, (5, 2, swapped), paper))

    def test_a_steps_question_yes_or_no_otherwise(self):
        for saying in (("and", ask(0), ("not", ask(1))), ("or", YES, ask(2)), ("either", ask(0), NO)):
            (cups, questions, steps), paper = made_with_paper(saying, 3, OTHER_RING)
            for at, (q, yes, no) in enumerate(steps):
                others = [((q + 1) % 3, yes, no), (q, one_then(yes, RING), no), (q, yes, one_then(no, RING))]
                others += [(q, no, yes), (q, (1, 0, 2, 3, 4), no), (q, yes, (1, 0, 2, 3, 4))]
                for other in others:
                    dance = (5, 3, steps[:at] + (other,) + steps[at + 1 :])
                    told = self.assert_as_told(saying, OTHER_RING, dance, paper)
                    # Where yes or no stands, any question may be asked, and both sides are alike.
                    self.assertEqual(told, other == (q, yes, no) or (other[1:] == (yes, no) and yes == no), other)

    def test_another_saying_or_ring(self):
        sayings = [("and", ask(0), ask(1)), ("and", ask(1), ask(0)), ("or", ask(0), ask(1)), ask(0), ask(1), YES, NO]
        sayings += [("not", saying) for saying in sayings] + [("either", ask(0), ask(1)), nots(ask(0), 2)]
        for saying in sayings:
            dance, paper = made_with_paper(saying, 2, RING)
            for other in sayings:
                self.assertIs(paper_holds(other, RING, dance, paper), other == saying, (saying, other))
            for ring in RINGS:
                never = saying in (NO, ("not", YES))
                self.assertIs(paper_holds(saying, ring, dance, paper), ring == RING or never)

    def test_numbers_that_miss(self):
        saying = ("and", ("and", ask(0), ask(1)), ask(2))
        dance, paper = made_with_paper(saying, 3, RING)
        self.assertEqual(paper[:4], ("and", 4, 5, 9))
        self.assertEqual(len(dance[2]), 10)
        bad = [(4, 4, 9), (4, 5, 5), (5, 4, 9), (9, 5, 4), (4, 9, 5), (0, 5, 9), (4, 5, 10), (4, 5, 11), (4, 5, 10**20)]
        bad += [(-6, 5, 9), (4, -5, 9), (4, 5, -1), (-6, -5, -1), (-(10**20), 5, 9), (3, 5, 9), (5, 6, 9), (4, 6, 9)]
        bad += [(4, 5, 8), ("4", 5, 9), (4, "5", 9), (4, 5, "9"), ((4,), 5, 9), (4, (), 9), (4, 5, STEP), ("", "", "")]
        for numbers in bad:
            self.assertFalse(self.assert_as_told(saying, RING, dance, paper[:1] + numbers + paper[4:]))

    def test_truths_are_no_whole_numbers(self):
        saying = ("and", ask(0), ask(1))
        dance, paper = made_with_paper(saying, 2, RING)
        self.assertEqual(paper[:4], ("and", 1, 2, 3))
        self.assertIs(paper_holds(saying, RING, dance, ("and", True) + paper[2:]), False)

    def test_every_count_of_numbers_below_ten(self):
        saying = ("and", ask(0), ("and", ask(0), ask(1)))
        dance, paper = made_with_paper(saying, 2, RING)
        for i in range(-11, 12):
            for j in range(-11, 12):
                for k in range(-11, 12):
                    told = paper_holds(saying, RING, dance, ("and", i, j, k) + paper[4:])
                    self.assertIs(told, (i, j, k) == paper[1:4])

    def test_rings_that_miss(self):
        saying = ("and", ask(0), ask(1))
        dance, paper = made_with_paper(saying, 2, RING)
        a, b = paper[4:6]
        others = list(bad_rings()) + turnings_of(5)
        others += [0, 12340, "12340", "", "ring", ("ring",), STEP, (a, b), (a,), ("1", "2", "3", "4", "0")]
        others += [(1, 2, 3, 4, "0"), (1, 2, 3, 4, ()), ((1, 2), 3, 4, 0), ((1, 2, 3, 4, 0),), ((), (), (), (), ())]
        for other in others:
            for pair in ((other, b), (a, other), (other, other)):
                told = self.assert_as_told(saying, RING, dance, paper[:4] + pair + paper[6:])
                self.assertEqual(told, pair == (a, b))
        for pair in PAIRS[RING]:
            self.assertIs(paper_holds(saying, RING, dance, paper[:4] + pair + paper[6:]), pair == (a, b))
        for pair in ((b, a), (backwards(a), backwards(b)), (backwards(b), a), (a, a), (STILL, STILL)):
            self.assertFalse(self.assert_as_told(saying, RING, dance, paper[:4] + pair + paper[6:]))

    def test_a_pair_that_comes_to_another_ring(self):
        # The steps go there and back by a pair of another ring: all within holds, but not the whole.
        saying = ("and", ask(0), ask(1))
        for ring in RINGS:
            if ring != RING:
                steps, paper = build(saying, ring, lambda pairs: pairs[0])
                self.assertIs(paper_holds(saying, ring, (5, 2, steps), paper), True)
                self.assertIs(paper_holds(saying, RING, (5, 2, steps), paper), False)

    def test_a_pair_that_is_no_pair_of_rings(self):
        # Two turnings that are no rings of five, whose there and back is a ring of five all the same.
        found = 0
        for a in turnings_of(5):
            for b in turnings_of(5)[::7]:
                if there_and_back(a, b) == RING and not (a in RINGS and b in RINGS):
                    found += 1
                    row = ((0, a, STILL), (1, b, STILL), (0, backwards(a), STILL), (1, backwards(b), STILL))
                    paper = ("and", 1, 2, 3, a, b) + (STEP,) * 4
                    self.assertIs(paper_holds(("and", ask(0), ask(1)), RING, (5, 2, row), paper), False)
        self.assertGreater(found, 0)

    def test_papers_within_exchanged(self):
        saying = ("and", ("and", ask(0), ("not", ask(1))), ("not", ask(2)))
        dance, paper = made_with_paper(saying, 3, RING)
        for one in range(6, 10):
            for other in range(one + 1, 10):
                row = list(paper)
                row[one], row[other] = row[other], row[one]
                alike = paper[one] == paper[other]
                self.assertEqual(self.assert_as_told(saying, RING, dance, tuple(row)), alike)
        self.assertNotEqual(paper[6], paper[8])

    def test_words_and_counts_that_miss(self):
        for saying in (ask(0), ("not", ask(0)), ("and", ask(0), ("not", ask(1)))):
            dance, paper = made_with_paper(saying, 2, RING)
            for word in ("", "Step", "step ", "stop", "yes", "ask", "or", "Not", "nota", "AND", "an", 0, 1, (), STEP):
                self.assertIs(paper_holds(saying, RING, dance, (word,) + paper[1:]), False)
            for word in ("step", "not", "and"):
                self.assertIs(paper_holds(saying, RING, dance, (word,) + paper[1:]), word == paper[0])
            for bad in (paper[:-1], paper[1:], paper + (STEP,), paper + (0,), paper + ("",), paper + paper, (paper,), ()):
                self.assertIs(paper_holds(saying, RING, dance, bad), False)

    def test_one_place_otherwise_anywhere(self):
        others = (0, 1, 2, -1, "", "step", "not", "and", (), STEP, ("not", STEP), RING, STILL, ("and",) * 10)
        for saying in (ask(0), nots(ask(1), 3), ("and", ask(0), ("not", ask(1))), ("or", ask(1), YES)):
            dance, paper = made_with_paper(saying, 2, RING)
            for changed in changed_at_one_place(paper, others):
                told = self.assert_as_told(saying, RING, dance, changed)
                self.assertEqual(told, changed == paper)

    def test_any_tuple_is_told_true_or_false(self):
        chance = random.Random(19)
        dances = [made(saying, 3, RING) for saying in (ask(0), ("and", ask(0), ask(1)), ("or", ask(0), NO))]
        dances += [(5, 3, ()), (5, 3, ((0, RING, RING),) * 6), (5, 3, ((0, STILL, STILL),) * 6)]
        sayings = [YES, NO, ask(0), ("not", NO), ("and", ask(0), ask(1)), ("or", ask(0), NO), ("most", YES, NO, NO)]
        sayings += [nots(("and", NO, NO), 2), ("and", ("not", YES), NO)]
        for paper in some_papers(chance, 400):
            for saying in sayings:
                for dance in dances:
                    self.assert_as_told(saying, RING, dance, paper)

    def test_a_thousand_tuples(self):
        low = nots(ask(0), 14)
        saying = ("and", ("and", ("and", low, low), ("and", low, low)), ("and", ("and", low, low), ("and", low, low)))
        dance, paper = made_with_paper(saying, 1, RING)
        self.assertGreaterEqual(tuples_in(paper), 1000)
        self.assertTrue(self.assert_as_told(saying, RING, dance, paper))
        self.assertFalse(self.assert_as_told(saying, OTHER_RING, dance, paper))
        self.assertFalse(self.assert_as_told(saying, RING, dance, paper[:-1] + (paper[-2],)))
        wide = ("and", 1, 2, 3, RING, OTHER_RING) + (("not",) + (STEP,) * 250,) * 4
        self.assertFalse(self.assert_as_told(saying, RING, dance, wide))
        self.assertFalse(self.assert_as_told(saying, RING, dance, (STEP,) * 1000))

    def test_sixty_within_one_another(self):
        for many in (57, 58, 59):
            deep = nots(ask(0), many)
            dance, paper = made_with_paper(deep, 1, RING)
            self.assertEqual(depth_of(paper), many + 1)
            self.assertTrue(self.assert_as_told(deep, RING, dance, paper))
            self.assertFalse(self.assert_as_told(deep, RING, dance, paper[1]))
            self.assertFalse(self.assert_as_told(deep, RING, dance, ("not", paper)))
            self.assertFalse(self.assert_as_told(ask(0), RING, dance, paper))
        bare = ()
        for k in range(60):
            bare = (bare,)
        self.assertIs(paper_holds(ask(0), RING, (5, 1, ((0, RING, STILL),)), bare), False)

    def test_two_hundred_steps(self):
        steps = ((0, RING, STILL), (0, backwards(RING), STILL)) * 100
        for paper in (STEP, ("not", STEP), made_with_paper(("and", ask(0), ask(0)), 1, RING)[1]):
            for saying in (YES, ("not", YES), ("and", ask(0), ask(0))):
                self.assertIs(paper_holds(saying, RING, (5, 1, steps), paper), False)
        for paper in (("and", 50, 100, 150, RING, OTHER_RING) + (STEP,) * 4, ("and", 1, 2, 199, RING, RING) + (STEP,) * 4):
            self.assertFalse(self.assert_as_told(("and", YES, YES), RING, (5, 1, steps), paper))

    def test_sayings_far_within_one_another(self):
        dance = (5, 1, ((0, RING, STILL),))
        for deep in (nots(ask(0), 100000), ("and", nots(ask(0), 100000), YES)):
            self.assertIs(paper_holds(deep, RING, dance, STEP), False)
            self.assertIs(paper_holds(deep, RING, dance, ("not", STEP)), False)
        deep = nots(ask(0), 20000)
        self.assertIs(paper_holds(deep, RING, dance, nots(STEP, 20000)), True)
        self.assertIs(paper_holds(deep, RING, dance, nots(STEP, 19998)), False)
        self.assertIs(paper_holds(deep, RING, dance, nots(STEP, 20002)), False)

    def test_what_is_handed_in_stays(self):
        saying = ("either", ask(0), ("not", ask(1)))
        dance, paper = made_with_paper(saying, 2, RING)
        before = repr((saying, RING, dance, paper))
        self.assertIs(paper_holds(saying, RING, dance, paper), True)
        self.assertIs(paper_holds(saying, RING, dance, paper[1]), False)
        self.assertIs(paper_holds(saying, RING, dance, paper), True)
        self.assertEqual(repr((saying, RING, dance, paper)), before)


if __name__ == "__main__":
    unittest.main()
