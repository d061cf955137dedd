import random
import unittest
from itertools import product

from fivecups.chains import chain
from fivecups.changed import turned_back
from fivecups.cutting import cut
from fivecups.desk import Desk
from fivecups.doing import done
from fivecups.errors import NoName
from fivecups.fewest import at_least
from fivecups.making import made
from fivecups.parting import parted
from fivecups.sayings import is_so
from fivecups.sayingtexts import read_saying, show_saying
from fivecups.sums import sums_of
from tests.desksamples import DANCES, SAYINGS, desk_text, full_desk, in_a_row
from tests.samples import (
    CUPS,
    answers_of,
    chance_dance,
    chance_saying,
    every_saying,
    light_sayings,
    plain_dance,
    rings_of_five,
    some_turnings,
    weighed,
)

NAMES = ("a", "z", "ab", "xyz", "cups", "fives", "abcdef", "zzzzzz")
OWN_WORDS = ("say", "dance", "make", "text", "do", "cut", "back", "alike", "marks", "chain", "yes", "no", "not", "kept")


class KeepingTest(unittest.TestCase):
    def assert_kept(self, desk, name, text):
        self.assertEqual(desk.say("text " + name), text)

    def test_sayings(self):
        desk = Desk()
        for saying in every_saying():
            text = show_saying(saying)
            self.assertEqual(desk.say("say one " + text), "kept")
            self.assert_kept(desk, "one", text)
        self.assertEqual(desk.say("say one q999"), "kept")
        self.assert_kept(desk, "one", "q999")

    def test_dances(self):
        desk = Desk()
        for cups, questions, many in product(CUPS, (1, 2, 10), (0, 1, 2, 24)):
            text = desk_text(plain_dance(cups, questions, many))
            self.assertEqual(desk.say("dance one " + text), "kept")
            self.assert_kept(desk, "one", text)
        self.assertEqual(desk.say("dance one cups 3 questions 1 ; 0 120 012 ; 0 012 021"), "kept")
        self.assert_kept(desk, "one", "cups 3 questions 1 ; 0 120 012 ; 0 012 021")

    def test_names(self):
        desk = Desk()
        for name in NAMES + OWN_WORDS:
            self.assertEqual(desk.say(f"say {name} (not q{len(name)})"), "kept")
        for name in NAMES + OWN_WORDS:
            self.assert_kept(desk, name, f"(not q{len(name)})")
            self.assertEqual(desk.say(f"do {name} 0000000"), "yes")
        for name in NAMES + OWN_WORDS:
            self.assertEqual(desk.say(f"make {name} {name} 10 12340"), "made")
            self.assertEqual(desk.say(f"cut {name}"), "1")

    def test_every_letter(self):
        desk = Desk()
        for letter in "abcdefghijklmnopqrstuvwxyz":
            for name in (letter, "aaaaa" + letter, letter + "zzzzz"):
                self.assertEqual(desk.say(f"say {name} yes"), "kept")
                self.assertEqual(desk.say(f"do {name} 1"), "yes")

    def test_over_one_another(self):
        desk = Desk()
        for text in ("q0", "cups 3 questions 1", "cups 5 questions 2", "no", "yes", "cups 4 questions 1 ; 0 1230 0123"):
            word = "dance" if text.startswith("cups") else "say"
            self.assertEqual(desk.say(f"{word} one {text}"), "kept")
            self.assert_kept(desk, "one", text)

    def test_two_desks(self):
        one, other = Desk(), Desk()
        one.say("say a yes")
        other.say("dance b cups 3 questions 1")
        for desk, name in ((one, "b"), (other, "a"), (Desk(), "a")):
            with self.assertRaises(NoName):
                desk.say("text " + name)
        other.say("say a no")
        one.say("say b q1")
        self.assertEqual([one.say("text a"), one.say("text b")], ["yes", "q1"])
        self.assertEqual([other.say("text a"), other.say("text b")], ["no", "cups 3 questions 1"])

    def test_each_name_keeps_its_own(self):
        desk = full_desk()
        for name, text in (SAYINGS | DANCES).items():
            self.assert_kept(desk, name, text)


class MakeTest(unittest.TestCase):
    def test_as_the_function_tells(self):
        chance = random.Random(17)
        desk = Desk()
        for saying in light_sayings()[::5]:
            questions, ring = chance.choice((3, 4, 10)), chance.choice(rings_of_five())
            desk.say("say one " + show_saying(saying))
            self.assertEqual(desk.say(f"make two one {questions} {in_a_row(ring)}"), "made")
            self.assertEqual(desk.say("text two"), desk_text(made(saying, questions, ring)))
            self.assertEqual(desk.say("text one"), show_saying(saying))

    def test_every_number_of_questions(self):
        desk = Desk()
        desk.say("say one q0")
        for questions in range(1, 11):
            self.assertEqual(desk.say(f"make two one {questions} 12340"), "made")
            self.assertEqual(desk.say("text two"), f"cups 5 questions {questions} ; 0 12340 01234")

    def test_by_the_saying_s_own_name_and_by_others(self):
        desk = full_desk()
        told = desk_text(made(read_saying(SAYINGS["s"]), 3, (1, 2, 3, 4, 0)))
        for name in ("new", "three", "b", "s"):
            self.assertEqual(desk.say(f"make {name} s 3 12340"), "made")
            self.assertEqual(desk.say("text " + name), told)

    def test_of_a_weight_of_124(self):
        saying = "(and (or q0 q2) (and (most q0 q1 q2) (not q1)))"
        self.assertEqual(weighed(read_saying(saying)), 124)
        desk = Desk()
        desk.say("say one " + saying)
        self.assertEqual(desk.say("make two one 3 12340"), "made")


class DoTest(unittest.TestCase):
    def test_sayings(self):
        desk = Desk()
        for saying in every_saying()[::3]:
            desk.say("say one " + show_saying(saying))
            for answers in answers_of(3):
                told = "yes" if is_so(saying, answers) else "no"
                for more in ("", "0", "1", "0110101"):
                    self.assertEqual(desk.say(f"do one {in_a_row(answers)}{more}"), told)

    def test_just_enough_answers(self):
        desk = Desk()
        for q in range(10):
            desk.say(f"say one (not q{q})")
            self.assertEqual(desk.say("do one " + "0" * (q + 1)), "yes")
            self.assertEqual(desk.say("do one " + "0" * q + "1"), "no")
        for text in ("yes", "no"):
            desk.say("say one " + text)
            self.assertEqual(desk.say("do one 0"), text)
            self.assertEqual(desk.say("do one 1"), text)

    def test_dances(self):
        chance = random.Random(14)
        desk = Desk()
        for cups, questions, many in product(CUPS, (1, 2, 3, 10), (0, 1, 5, 24)):
            dance = chance_dance(chance, cups, questions, many)
            desk.say("dance one " + desk_text(dance))
            for answers in answers_of(questions)[:: max(1, 2**questions // 16)]:
                self.assertEqual(desk.say("do one " + in_a_row(answers)), in_a_row(done(dance, answers)))


class ChangedAtTheDeskTest(unittest.TestCase):
    def test_cut_and_back(self):
        chance = random.Random(25)
        desk = Desk()
        for cups, questions, many in product(CUPS, (1, 2, 10), (0, 1, 2, 7, 24)):
            dance = chance_dance(chance, cups, questions, many)
            desk.say("dance one " + desk_text(dance))
            desk.say("dance two " + desk_text(dance))
            self.assertEqual(desk.say("back one"), str(many))
            self.assertEqual(desk.say("text one"), desk_text(turned_back(dance)))
            self.assertEqual(desk.say("cut one"), str(len(cut(turned_back(dance))[2])))
            self.assertEqual(desk.say("text one"), desk_text(cut(turned_back(dance))))
            self.assertEqual(desk.say("text two"), desk_text(dance))
            self.assertEqual(desk.say("back one"), str(len(cut(dance)[2])))
            self.assertEqual(desk.say("text one"), desk_text(cut(dance)))

    def test_of_a_made_dance(self):
        desk = full_desk()
        desk.say("make new s 3 12340")
        dance = made(read_saying(SAYINGS["s"]), 3, (1, 2, 3, 4, 0))
        self.assertEqual(desk.say("cut new"), str(len(cut(dance)[2])))
        self.assertEqual(desk.say("back new"), str(len(cut(dance)[2])))
        self.assertEqual(desk.say("text new"), desk_text(turned_back(cut(dance))))

    def test_nothing_left(self):
        desk = Desk()
        desk.say("dance one cups 3 questions 1 ; 0 120 012 ; 0 201 012")
        self.assertEqual(desk.say("cut one"), "0")
        self.assertEqual(desk.say("text one"), "cups 3 questions 1")


class ThreeCupsTest(unittest.TestCase):
    def test_alike_and_parted(self):
        chance = random.Random(32)
        desk = Desk()
        found = set()
        for questions in (1, 2, 3, 10):
            for again in range(20):
                one = chance_dance(chance, 3, questions, chance.choice((0, 1, 2, 24)))
                other = chance_dance(chance, 3, questions, chance.choice((0, 1, 2, 24)))
                for pair in ((one, other), (other, one), (one, one), (one, cut(one))):
                    desk.say("dance one " + desk_text(pair[0]))
                    desk.say("dance two " + desk_text(pair[1]))
                    answers = parted(pair[0], pair[1])
                    told = "alike" if answers is None else in_a_row(answers)
                    self.assertEqual(desk.say("alike one two"), told)
                    found.add(told)
        self.assertIn("alike", found)
        self.assertGreater(len(found), 6)

    def test_a_dance_and_itself(self):
        desk = full_desk()
        for name in ("three", "o", "more"):
            self.assertEqual(desk.say(f"alike {name} {name}"), "alike")
        self.assertEqual(desk.say("alike three o"), "01")
        self.assertEqual(desk.say("alike o three"), "01")

    def test_marks(self):
        chance = random.Random(33)
        desk = Desk()
        for questions, many in product((1, 2, 5, 10), (0, 1, 2, 24)):
            dance = chance_dance(chance, 3, questions, many)
            sums = sums_of(dance)
            desk.say("dance one " + desk_text(dance))
            self.assertEqual(desk.say("marks one"), f"{len(sums[2])} {at_least(sums)}")
        self.assertEqual(full_desk().say("marks o"), "0 0")
        self.assertEqual(full_desk().say("marks more"), "2 1")


class ChainRowTest(unittest.TestCase):
    def test_none_to_four_turnings(self):
        desk = Desk()
        for cups, some in some_turnings()[::3]:
            way, groups = chain(cups, some)
            told = " ".join([way] + [str(len(one)) for one in groups])
            self.assertEqual(desk.say(" ".join(["chain", str(cups)] + [in_a_row(one) for one in some])), told)

    def test_written_out(self):
        for row, told in (
            ("chain 3", "down 1"),
            ("chain 4", "down 1"),
            ("chain 5", "down 1"),
            ("chain 3 012", "down 1"),
            ("chain 3 102", "down 2 1"),
            ("chain 3 102 021", "down 6 3 1"),
            ("chain 4 1230 1023", "down 24 12 4 1"),
            ("chain 5 12340 12034", "lasting 60"),
            ("chain 5 12340 10234 10234 01234", "lasting 120 60"),
        ):
            self.assertEqual(Desk().say(row), told)


class AgainTest(unittest.TestCase):
    def test_asked_again(self):
        one, other = full_desk(), full_desk()
        rows = ("text s", "text three", "do s 101", "do three 10", "alike three o", "marks three")
        for row in rows + ("chain 5 12340 10234",):
            told = one.say(row)
            self.assertIsInstance(told, str)
            self.assertEqual([one.say(row), other.say(row)], [told, told])

    def test_rows_of_chance_sayings(self):
        chance = random.Random(36)
        desk = Desk()
        for again in range(60):
            saying = chance_saying(chance, 5, chance.randint(1, 24))
            desk.say("say one " + show_saying(saying))
            self.assertEqual(desk.say("text one"), show_saying(saying))
            for answers in answers_of(5)[::5]:
                self.assertEqual(desk.say("do one " + in_a_row(answers)), "yes" if is_so(saying, answers) else "no")


if __name__ == "__main__":
    unittest.main()
