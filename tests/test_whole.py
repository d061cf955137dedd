"""Point 3 over the whole program: what one module tells is handed on to the next."""

import random
import unittest

from fivecups.chains import chain
from fivecups.changed import answered, asked_anew, behind, turned_about, turned_back
from fivecups.cutting import cut
from fivecups.dances import look
from fivecups.dancetexts import read_dance, show_dance
from fivecups.desk import Desk
from fivecups.doing import all_answers, done, done_by_steps, table
from fivecups.fewest import at_least, sums_of_saying
from fivecups.groups import group, word
from fivecups.making import made
from fivecups.papers import made_with_paper, paper_holds
from fivecups.parting import parted
from fivecups.places import comes_to, halvings
from fivecups.sayings import is_so, layers, weight
from fivecups.sayingtexts import read_saying, show_saying
from fivecups.spelled import spelled
from fivecups.sumdances import dance_of
from fivecups.sums import come, sums_of
from fivecups.turnings import about, back, still, then
from tests.desksamples import desk_text, in_a_row
from tests.samples import (
    chance_dance,
    chance_saying,
    is_dance,
    light_sayings,
    rings_of_five,
    so_by_words,
    turnings_of,
    with_questions,
)

TURN = (1, 2, 0)


def sayings_and_questions():
    """Of a weight of at most 128: (saying, questions)."""
    chance = random.Random(3)
    told = [(saying, 3) for saying in light_sayings()[::6]]
    told += [(with_questions(questions), questions) for questions in range(1, 6)]
    while len(told) < 60:
        questions = chance.randint(1, 5)
        saying = chance_saying(chance, questions, chance.randint(1, 12))
        if weight(saying) <= 128:
            told.append((saying, questions))
    return told


class WholeTest(unittest.TestCase):
    def assert_does(self, dance, saying, turning):
        for answers in all_answers(dance[1]):
            expected = turning if so_by_words(saying, answers) else still(dance[0])
            self.assertEqual(done(dance, answers), expected, (saying, answers))

    def test_sayings_danced_by_five_cups(self):
        rings = rings_of_five()
        for at, (saying, questions) in enumerate(sayings_and_questions()):
            ring, by = rings[at % 24], turnings_of(5)[(at * 7) % 120]
            dance, paper = made_with_paper(saying, questions, ring)
            self.assertEqual(made(saying, questions, ring), dance)
            self.assertTrue(paper_holds(saying, ring, dance, paper))
            self.assertTrue(1 <= len(dance[2]) <= weight(saying) <= 4 ** layers(saying))
            self.assert_does(dance, saying, ring)
            self.assert_does(cut(dance), saying, ring)
            self.assert_does(turned_back(dance), saying, back(ring))
            self.assert_does(turned_about(dance, by), saying, about(ring, by))
            self.assert_does(made(spelled(saying), questions, ring), saying, ring)
            self.assert_does(read_dance(show_dance(cut(turned_about(dance, by)))), saying, about(ring, by))
            self.assertEqual(read_saying(show_saying(saying)), saying)

    def test_sayings_danced_by_three_cups(self):
        for at, (saying, questions) in enumerate(sayings_and_questions()):
            sums, by = sums_of_saying(saying, questions), turnings_of(3)[at % 6]
            dance = dance_of(sums, questions)
            self.assertTrue(look(dance))
            self.assertEqual(sums_of(dance), sums)
            self.assert_does(dance, saying, TURN)
            self.assert_does(cut(dance), saying, TURN)
            self.assertEqual(sums_of(cut(dance)), sums)
            self.assertGreaterEqual(len(cut(dance)[2]), at_least(sums))
            self.assert_does(turned_about(dance, by), saying, about(TURN, by))
            self.assertEqual(read_dance(show_dance(dance)), dance)
            first = [answers for answers in all_answers(questions) if so_by_words(saying, answers)]
            self.assertEqual(parted(dance, (3, questions, ())), first[0] if first else None)

    def test_where_cups_of_told_dances_come_to(self):
        for saying, questions in ((("and", ("ask", 0), ("ask", 1)), 2), (("or", ("ask", 1), ("not", ("ask", 0))), 2)):
            five = made(saying, questions, (1, 2, 3, 4, 0))
            three = dance_of(sums_of_saying(("ask", 1), questions), questions)
            for dance, times in ((five, 4), (cut(five), 4), (three, 3), (cut(three), 3)):
                for i in range(dance[0]):
                    for j in range(dance[0]):
                        told = comes_to(dance, i, j)
                        self.assertLessEqual(layers(told), halvings(dance) * times)
                        for answers in all_answers(questions):
                            self.assertEqual(is_so(told, answers), done(dance, answers)[i] == j)

    def test_dances_changed_and_their_sums(self):
        chance = random.Random(23)
        for questions in (1, 2, 3, 4):
            for many in (0, 1, 5, 24):
                one, other = chance_dance(chance, 3, questions, many), chance_dance(chance, 3, questions, 24)
                row = tuple(chance.randrange(4) for q in range(questions))
                changed = {
                    "behind": behind(one, other),
                    "back": turned_back(one),
                    "about": turned_about(one, (1, 0, 2)),
                    "answered": answered(one, 0, 1),
                    "anew": asked_anew(one, row, 4),
                }
                for dance in changed.values():
                    sums = sums_of(dance)
                    for answers in all_answers(dance[1]):
                        self.assertEqual(come(sums, answers), done(dance, answers))
                for answers in all_answers(questions):
                    first = done(one, answers)
                    told = {name: done(changed[name], answers) for name in ("behind", "back", "about")}
                    expected = {"behind": then(first, done(other, answers)), "back": back(first)}
                    self.assertEqual(told, expected | {"about": about(first, (1, 0, 2))})
                self.assertEqual(table(one) == table(other), sums_of(one) == sums_of(other))
                self.assertEqual(parted(one, other) is None, sums_of(one) == sums_of(other))

    def test_turnings_of_dances_lie_in_the_groups_told(self):
        chance = random.Random(28)
        for cups in (3, 4, 5):
            for many in (1, 2):
                dance = chance_dance(chance, cups, 3, many)
                some = tuple(side for step in dance[2] for side in step[1:])
                for answers in all_answers(3):
                    for turning in done_by_steps(dance, answers):
                        self.assertIn(turning, group(cups, some))
                        self.assertIsNotNone(word(cups, some, turning))
        way, groups = chain(5, ((1, 2, 3, 4, 0), (1, 2, 0, 3, 4)))
        self.assertEqual(way, "lasting")
        for saying, questions in sayings_and_questions()[::6]:
            for step in made(saying, questions, (1, 2, 3, 4, 0))[2]:
                self.assertIn(step[1], groups[-1])
                self.assertIn(step[2], groups[-1])


class AtTheDeskTest(unittest.TestCase):
    def test_five_cups(self):
        desk = Desk()
        for at, (saying, questions) in enumerate(sayings_and_questions()):
            ring = rings_of_five()[at % 24]
            dance = made(saying, questions, ring)
            desk.say("say one " + show_saying(saying))
            desk.say(f"make two one {questions} {in_a_row(ring)}")
            self.assertEqual(desk.say("text two"), desk_text(dance))
            desk.say("dance three " + desk.say("text two"))
            for answers in all_answers(questions):
                row = in_a_row(answers)
                so = desk.say("do one " + row)
                self.assertEqual(so, "yes" if is_so(saying, answers) else "no")
                self.assertEqual(desk.say("do two " + row), in_a_row(ring) if so == "yes" else "01234")
            self.assertEqual(desk.say("cut three"), str(len(cut(dance)[2])))
            self.assertEqual(desk.say("back three"), desk.say("cut three"))
            self.assertEqual(desk.say("text three"), desk_text(turned_back(cut(dance))))

    def test_three_cups(self):
        desk = Desk()
        for saying, questions in sayings_and_questions():
            sums = sums_of_saying(saying, questions)
            dance = dance_of(sums, questions)
            self.assertTrue(is_dance(dance))
            desk.say("dance one " + desk_text(dance))
            desk.say("dance two " + desk_text(dance))
            self.assertEqual(desk.say("marks one"), f"{len(sums[2])} {at_least(sums)}")
            self.assertEqual(desk.say("cut two"), str(len(cut(dance)[2])))
            self.assertEqual(desk.say("marks two"), desk.say("marks one"))
            self.assertEqual(desk.say("alike one two"), "alike")
            desk.say("back two")
            answers = parted(dance, turned_back(dance))
            self.assertEqual(desk.say("alike one two"), "alike" if answers is None else in_a_row(answers))


if __name__ == "__main__":
    unittest.main()
