"""The desk: keeps sayings and dances by names, and is told rows."""

from fivecups.chains import chain
from fivecups.changed import turned_back
from fivecups.cutting import cut
from fivecups.dancetexts import from_a_row, in_a_row, read_dance, show_dance
from fivecups.deskrows import kept_names, words_of
from fivecups.doing import done
from fivecups.errors import NoName, NoRow
from fivecups.fewest import at_least
from fivecups.making import made
from fivecups.parting import parted
from fivecups.sayings import is_so, questions_in
from fivecups.sayingtexts import read_saying, show_saying
from fivecups.sums import sums_of


def is_saying(thing):
    # A saying begins with a word, a dance with how many cups it has.
    return isinstance(thing[0], str)


def look_for_dance(thing):
    if is_saying(thing):
        raise NoRow()


def look_for_three_cups(thing):
    # No saying begins with a number: so it is refused here, too.
    if thing[0] != 3:
        raise NoRow()


def look_for_answers(saying, many):
    if not all([q < many for q in questions_in(saying)]):
        raise NoRow()


def text_of(thing):
    return show_saying(thing) if is_saying(thing) else show_dance(thing).replace("\n", " ; ")


def made_of(thing, questions, ring):
    if not is_saying(thing):
        raise NoRow()
    look_for_answers(thing, questions)
    return made(thing, questions, ring)


def done_by(thing, answers):
    if is_saying(thing):
        look_for_answers(thing, len(answers))
        return "yes" if is_so(thing, answers) else "no"
    if len(answers) != thing[1]:
        raise NoRow()
    return in_a_row(done(thing, answers))


def alike(one, other):
    look_for_three_cups(one)
    look_for_three_cups(other)
    answers = parted(one, other)
    return "alike" if answers is None else in_a_row(answers)


def marks_and_steps(dance):
    look_for_three_cups(dance)
    sums = sums_of(dance)
    return " ".join([str(len(sums[2])), str(at_least(sums))])


def chain_by_sizes(cups, some):
    told = chain(cups, some)
    return " ".join([told[0]] + [str(len(turnings)) for turnings in told[1]])


def new_thing(words, things):
    # What the name that stands behind the first word keeps from then on, or None.
    if words[0] == "say":
        return read_saying(" ".join(words[2:]))
    if words[0] == "dance":
        return read_dance(" ".join(words[2:]).replace(" ; ", "\n"))
    if words[0] == "make":
        return made_of(things[0], int(words[3]), from_a_row(words[4]))
    if words[0] in ("cut", "back"):
        look_for_dance(things[0])
        return cut(things[0]) if words[0] == "cut" else turned_back(things[0])
    return None


def told_of_new(first, thing):
    if first == "make":
        return "made"
    return str(len(thing[2])) if first in ("cut", "back") else "kept"


def told_by(words, things):
    if words[0] == "text":
        return text_of(things[0])
    if words[0] == "do":
        return done_by(things[0], from_a_row(words[2]))
    if words[0] == "alike":
        return alike(things[0], things[1])
    if words[0] == "marks":
        return marks_and_steps(things[0])
    return chain_by_sizes(int(words[1]), tuple([from_a_row(word) for word in words[2:]]))


class Desk:
    def __init__(self):
        self.things = {}

    def say(self, row):
        words = words_of(row)
        for name in kept_names(words):
            if name not in self.things:
                raise NoName(name)
        things = [self.things[name] for name in kept_names(words)]
        thing = new_thing(words, things)
        if thing is None:
            return told_by(words, things)
        self.things[words[1]] = thing
        return told_of_new(words[0], thing)
