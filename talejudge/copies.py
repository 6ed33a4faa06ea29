"""Copies: one register kept by three or five copies; hands and copies send letters, which may come late or be lost."""

from talejudge.basics import is_whole
from talejudge.errors import NoPlan
from talejudge.plans import is_plan, planned
from talejudge.tales import make_tale

MOST_HANDS = 6
MOST_DEEDS = 24

# A stamp (number, hand) and a worth.
FIRST_HELD = ((0, -1), 0)


class Errand:
    """One asking or keeping of a deed: each copy gets a letter, and answers of more than half of them are enough."""

    def __init__(self, hand, deed, kept):
        self.hand = hand
        self.deed = deed
        # The stamp and worth that the copies are to keep; None where they are asked.
        self.kept = kept
        self.heard = []


class Letter:
    """A letter of an errand, to a copy or back from it: then it says what the copy holds."""

    def __init__(self, errand, number, held):
        self.errand = errand
        self.number = number
        self.held = held


class Copies:
    """The copies, the letters under way, and what each hand has left to do."""

    def __init__(self, many, plan, back):
        self.stock = [FIRST_HELD for number in range(many)]
        self.back = back
        self.left = [list(own) for own in plan]
        self.idle = [True for own in plan]
        self.letters = []
        self.events = []

    # Where there is no move there is none at any later choice either: so the run has ended.
    def go_on(self, choice):
        ready = [hand for hand, own in enumerate(self.left) if len(own) > 0 and self.idle[hand]]
        many = len(self.letters)
        if len(ready) + many == 0:
            return
        chosen = choice % (len(ready) + 2 * many)
        if chosen < len(ready):
            self.begin_deed(ready[chosen])
            return
        letter = self.letters.pop((chosen - len(ready)) % many)
        if chosen < len(ready) + many:
            self.bring(letter)

    def begin_deed(self, hand):
        deed = self.left[hand].pop(0)
        self.idle[hand] = False
        self.events.append(("begin", hand, "r") + deed)
        self.send(Errand(hand, deed, None))

    def send(self, errand):
        for number in range(len(self.stock)):
            self.letters.append(Letter(errand, number, None))

    def bring(self, letter):
        if letter.held is None:
            self.bring_to_copy(letter.errand, letter.number)
        else:
            self.bring_back(letter.errand, letter.held)

    def bring_to_copy(self, errand, number):
        if errand.kept is not None and errand.kept[0] > self.stock[number][0]:
            self.stock[number] = errand.kept
        self.letters.append(Letter(errand, number, self.stock[number]))

    def bring_back(self, errand, held):
        errand.heard.append(held)
        # One answer alone is the one that makes more than half: all later ones count nowhere.
        if len(errand.heard) != len(self.stock) // 2 + 1:
            return
        if errand.kept is not None:
            self.end_deed(errand, errand.kept[1])
        else:
            self.go_on_from_asking(errand)

    def go_on_from_asking(self, errand):
        # One stamp never has two worths: so the greatest of all that was heard has the greatest stamp.
        greatest = max(errand.heard)
        if errand.deed[0] == "write":
            self.send(Errand(errand.hand, errand.deed, ((greatest[0][0] + 1, errand.hand), errand.deed[1])))
        elif self.back:
            self.send(Errand(errand.hand, errand.deed, greatest))
        else:
            self.end_deed(errand, greatest[1])

    def end_deed(self, errand, worth):
        self.idle[errand.hand] = True
        self.events.append(("end", errand.hand, "ok" if errand.deed[0] == "write" else worth))


# Asked of anything as a number of copies and as a plan.
def check_plan(many, plan):
    if not is_whole(many) or many not in (3, 5):
        raise NoPlan("there are three or five copies")
    if not is_plan("register", plan, MOST_HANDS, MOST_DEEDS):
        raise NoPlan("this is no plan of a register's deeds")
    worths = [worth for verb, worth in planned(plan) if verb == "write"]
    if 0 in worths or len(set(worths)) < len(worths):
        raise NoPlan("worths that are written are unlike, and none is 0")


def run_copies(many, plan, choices, back):
    check_plan(many, plan)
    copies = Copies(many, plan, back)
    for choice in choices:
        copies.go_on(choice)
    return make_tale([("r", "register")], copies.events)
