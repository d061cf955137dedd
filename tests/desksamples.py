"""What the tests of the desk draw on."""

from fivecups.dancetexts import show_dance
from fivecups.desk import Desk

HEAVY = "(most (either q0 q1) q1 q0)"
# What a full desk keeps.
SAYINGS = {"s": "(and q0 (not q2))", "b": "yes", "q": "q9", "heavy": HEAVY, "say": "q0"}
DANCES = {
    "three": "cups 3 questions 2 ; 0 120 012 ; 1 021 012",
    "o": "cups 3 questions 2",
    "more": "cups 3 questions 3 ; 2 120 012",
    "four": "cups 4 questions 2 ; 0 1230 0123",
    "five": "cups 5 questions 2 ; 1 12340 01234",
    "cut": "cups 5 questions 10 ; 9 12340 12340 ; 9 01234 40123",
}


def in_a_row(numbers):
    return "".join(str(number) for number in numbers)


def desk_text(dance):
    return show_dance(dance).replace("\n", " ; ")


def full_desk():
    desk = Desk()
    for name, text in SAYINGS.items():
        desk.say(f"say {name} {text}")
    for name, text in DANCES.items():
        desk.say(f"dance {name} {text}")
    return desk
