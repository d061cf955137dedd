import unittest

from fivecups.dances import look
from fivecups.errors import CupError, NoRing, TooHeavy
from fivecups.making import apart, made
from fivecups.sayings import is_so, layers, weight
from fivecups.spelled import spelled
from tests.samples import (
    INSIDE,
    NO,
    YES,
    answers_of,
    ask,
    bad_rings,
    comes,
    every_saying,
    heaviest_sayings,
    is_dance,
    is_even,
    is_tuple_of_numbers,
    light_sayings,
    low_sayings,
    nots,
    rings_of_five,
    there_and_back,
    turnings_of,
    with_questions,
)

STILL = (0, 1, 2, 3, 4)
RING = (1, 2, 3, 4, 0)


class ApartTest(unittest.TestCase):
    def test_every_ring_of_five(self):
        rings = rings_of_five()
        self.assertEqual(len(rings), 24)
        for ring in rings:
            pair = apart(ring)
            self.assertIsInstance(pair, tuple)
            self.assertEqual(len(pair), 2)
            for one in pair:
                self.assertTrue(is_tuple_of_numbers(one))
                self.assertIn(one, rings)
            self.assertEqual(there_and_back(pair[0], pair[1]), ring)
            self.assertEqual(apart(ring), pair)


class MadeTest(unittest.TestCase):
    def assert_made(self, saying, questions, ring):
        dance = made(saying, questions, ring)
        self.assertTrue(is_dance(dance), dance)
        self.assertIs(look(dance), True)
        self.assertEqual(dance[:2], (5, questions))
        self.assertGreaterEqual(len(dance[2]), 1)
        self.assertLessEqual(len(dance[2]), weight(saying))
        self.assertLessEqual(len(dance[2]), 4 ** layers(saying))
        for q, yes, no in dance[2]:
            self.assertTrue(is_even(yes) and is_even(no))
        for answers in answers_of(questions):
            self.assertEqual(comes(dance, answers), ring if is_so(saying, answers) else STILL, (saying, answers))
        self.assertEqual(made(saying, questions, ring), dance)

    def test_bare_sayings_for_every_ring(self):
        for ring in rings_of_five():
            for saying in (YES, NO, ask(0), ask(1), ("not", YES), ("not", NO), ("not", ask(1))):
                self.assert_made(saying, 2, ring)

    def test_each_word_for_every_ring(self):
        for ring in rings_of_five():
            for word in INSIDE:
                saying = (word,) + (ask(0), ask(1), ask(2))[: INSIDE[word]]
                self.assert_made(saying, 3, ring)

    def test_each_word_of_all_bare_sayings(self):
        rings = rings_of_five()
        for k, saying in enumerate(low_sayings()):
            self.assert_made(saying, 3, rings[k % 24])

    def test_sayings_within_one_another(self):
        rings = rings_of_five()
        light = light_sayings()
        self.assertGreater(len(light), 100)
        self.assertEqual(max(weight(saying) for saying in light), 124)
        for k, saying in enumerate(light):
            self.assert_made(saying, 3, rings[(k * 5 + 1) % 24])

    def test_one_to_ten_questions(self):
        for questions in range(1, 11):
            for q in range(questions):
                self.assert_made(ask(q), questions, RING)
            for saying in (YES, NO, with_questions(questions)):
                self.assert_made(saying, questions, (2, 0, 4, 1, 3))

    def test_nots_however_many_within_one_another(self):
        for many in (1, 2, 3, 59, 5000, 5001):
            for saying in (ask(1), ("and", ask(0), ask(1))):
                self.assert_made(nots(saying, many), 2, RING)

    def test_what_spelled_told(self):
        for word in INSIDE:
            self.assert_made(spelled((word,) + (ask(0), ask(1), ask(2))[: INSIDE[word]]), 3, RING)

    def test_what_is_handed_in_stays(self):
        saying = ("either", ("not", ask(0)), ask(1))
        ring = (2, 0, 4, 1, 3)
        made(saying, 2, ring)
        self.assertEqual((saying, ring), (("either", ("not", ("ask", 0)), ("ask", 1)), (2, 0, 4, 1, 3)))


class RefusedTest(unittest.TestCase):
    def assert_too_heavy(self, heavy, *handed):
        with self.assertRaises(CupError, msg=repr(handed)) as caught:
            made(*handed)
        self.assertIs(caught.exception.__class__, TooHeavy)
        self.assertEqual(caught.exception.weight, heavy)
        self.assertIs(caught.exception.weight.__class__, int)

    def assert_no_ring(self, *handed):
        with self.assertRaises(CupError, msg=repr(handed)) as caught:
            made(*handed)
        self.assertIs(caught.exception.__class__, NoRing)

    def test_no_ring(self):
        for ring in bad_rings():
            for saying in (YES, NO, ask(0), ("and", ask(0), ask(0))):
                self.assert_no_ring(saying, 1, ring)
                self.assert_no_ring(saying, 1, ring, 4)

    def test_no_ring_goes_ahead_of_too_heavy(self):
        heavy = ("most", ask(0), ask(0), ("most", ask(0), ask(0), ask(0)))
        for ring in bad_rings():
            self.assert_no_ring(("and", ask(0), ask(0)), 1, ring, 3)
            self.assert_no_ring(heavy, 1, ring)

    def test_every_turning_that_is_no_ring(self):
        rings = rings_of_five()
        for turning in turnings_of(5):
            if turning in rings:
                self.assertEqual(made(YES, 1, turning)[0], 5)
            else:
                self.assert_no_ring(YES, 1, turning)

    def test_too_heavy_just_where_the_weight_is_above_most(self):
        for saying in every_saying():
            heavy = weight(saying)
            for most in (1, 2, 3, 4, 8, 15, 16, 17, 28, 64, 127, 128):
                if heavy > most:
                    self.assert_too_heavy(heavy, saying, 3, RING, most)
                elif heavy == most:
                    self.assertLessEqual(len(made(saying, 3, RING, most)[2]), most)

    def test_at_the_edge(self):
        for heavy, saying in ((1, ask(0)), (4, ("or", ask(0), ask(1))), (16, ("either", ask(0), ask(1)))):
            self.assertEqual(made(saying, 2, RING, heavy), made(saying, 2, RING))
            self.assertEqual(made(saying, 2, RING, heavy + 1), made(saying, 2, RING))
            if heavy > 1:
                self.assert_too_heavy(heavy, saying, 2, RING, heavy - 1)

    def test_most_left_out_is_128(self):
        # No saying has a weight of 125 to 129, so what stands in the place of most is looked at, too.
        for saying in heaviest_sayings():
            self.assertEqual(weight(saying), 124)
            self.assertEqual(made(saying, 3, RING), made(saying, 3, RING, 128))
            self.assert_too_heavy(124, saying, 3, RING, 123)
        either = ("either", ask(0), ask(1))
        self.assert_too_heavy(130, ("or", ("and", either, either), NO), 2, RING)
        self.assertEqual(made.__defaults__, (128,))


if __name__ == "__main__":
    unittest.main()
