import unittest

from fivecups.turnings import about, back, is_turning, still, then, there_back
from tests.samples import CUPS, every_turning, is_tuple_of_numbers, turnings_of


def some_turnings_of(cups):
    return turnings_of(cups)[:: 7 if cups == 5 else 1]


class ComingTest(unittest.TestCase):
    def assert_turning(self, thing, cups):
        self.assertTrue(is_tuple_of_numbers(thing))
        self.assertEqual(sorted(thing), list(range(cups)))

    def test_still(self):
        self.assertEqual([still(cups) for cups in CUPS], [(0, 1, 2), (0, 1, 2, 3), (0, 1, 2, 3, 4)])
        for cups in CUPS:
            self.assert_turning(still(cups), cups)

    def test_the_documents_own_example(self):
        self.assertEqual(then((1, 2, 0), (0, 2, 1)), (2, 1, 0))
        self.assertEqual(then((0, 2, 1), (1, 2, 0)), (1, 0, 2))

    def test_then_cup_by_cup(self):
        for cups in CUPS:
            for one in some_turnings_of(cups):
                for other in turnings_of(cups):
                    both = then(one, other)
                    self.assert_turning(both, cups)
                    for k in range(cups):
                        self.assertEqual(both[k], other[one[k]])

    def test_the_still_one_changes_nothing(self):
        for turning in every_turning():
            nothing = tuple(range(len(turning)))
            self.assertEqual(then(nothing, turning), turning)
            self.assertEqual(then(turning, nothing), turning)

    def test_back(self):
        self.assertEqual(back((1, 2, 0)), (2, 0, 1))
        self.assertEqual(back((1, 2, 3, 4, 0)), (4, 0, 1, 2, 3))
        for turning in every_turning():
            nothing = tuple(range(len(turning)))
            self.assert_turning(back(turning), len(turning))
            self.assertEqual(then(turning, back(turning)), nothing)
            self.assertEqual(then(back(turning), turning), nothing)

    def test_about_cup_by_cup(self):
        self.assertEqual(about((1, 0, 2), (1, 2, 0)), (0, 2, 1))
        for cups in CUPS:
            for turning in some_turnings_of(cups):
                for by in turnings_of(cups):
                    told = about(turning, by)
                    self.assert_turning(told, cups)
                    for k in range(cups):
                        self.assertEqual(told[k], by[turning[by.index(k)]])

    def test_there_back_cup_by_cup(self):
        self.assertEqual(there_back((1, 0, 2), (0, 2, 1)), (1, 2, 0))
        for cups in CUPS:
            for a in some_turnings_of(cups):
                for b in turnings_of(cups):
                    told = there_back(a, b)
                    self.assert_turning(told, cups)
                    for k in range(cups):
                        self.assertEqual(told[k], b.index(a.index(b[a[k]])))

    def test_asked_again_the_same_is_told(self):
        a, b = (1, 2, 3, 4, 0), (2, 0, 1, 4, 3)
        first = (still(5), then(a, b), back(a), about(a, b), there_back(a, b), is_turning(5, a))
        again = (still(5), then(a, b), back(a), about(a, b), there_back(a, b), is_turning(5, a))
        self.assertEqual(first, again)
        self.assertEqual((a, b), ((1, 2, 3, 4, 0), (2, 0, 1, 4, 3)))


class IsTurningTest(unittest.TestCase):
    def test_every_turning_of_its_own_cups_alone(self):
        for turning in every_turning():
            for cups in CUPS:
                self.assertIs(is_turning(cups, turning), cups == len(turning))

    def test_a_number_put_in_the_place_of_another(self):
        for turning in every_turning():
            cups = len(turning)
            for k in range(cups):
                twice = turning[(k + 1) % cups]
                for number in (twice, -1, -cups, turning[k] - cups, cups, cups + 1, 10**30, -(10**30)):
                    self.assertIs(is_turning(cups, turning[:k] + (number,) + turning[k + 1 :]), False)

    def test_a_number_left_out_or_put_in(self):
        for turning in every_turning():
            cups = len(turning)
            for k in range(cups):
                self.assertIs(is_turning(cups, turning[:k] + turning[k + 1 :]), False)
                for number in (-1, 0, turning[k], cups):
                    self.assertIs(is_turning(cups, turning[:k] + (number,) + turning[k:]), False)

    def test_the_tuple_without_numbers(self):
        for cups in CUPS:
            self.assertIs(is_turning(cups, ()), False)


if __name__ == "__main__":
    unittest.main()
