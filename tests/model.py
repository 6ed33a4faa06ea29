"""A tale's words told by going through everything, beside which the program's are held, and tales by chance."""

import itertools
import random

from talejudge.store import do, first_state
from talejudge.tales import deeds, make_tale

STRICTNESSES = ["strict", "hands", "bare"]
VERBS = {
    "register": [("write", 1), ("write", 2), ("read", None)],
    "counter": [("add", 1), ("add", -1), ("read", None)],
    "queue": [("put", 1), ("put", 2), ("take", None)],
    "set": [("put", 1), ("cut", 1), ("has", 1), ("put", 2)],
    "cell": [("write", 1), ("swap", (0, 1)), ("swap", (1, 2)), ("read", None)],
}
ANSWERS = ["ok", "none", 0, 1, 2]


class Model:
    """A tale, told by its words alone: pairs, orders and places, each found by going through everything."""

    def __init__(self, tale, strictness):
        self.things = tale[0]
        self.deeds = deeds(tale)
        self.ended = [number for number, deed in enumerate(self.deeds) if deed[6] is not None]
        self.undecided = [number for number in range(len(self.deeds)) if number not in self.ended]
        self.pairs = [(one, other) for one in range(len(self.deeds)) for other in range(len(self.deeds))
                      if self.has_to_be_ahead(strictness, self.deeds[one], self.deeds[other])]

    def has_to_be_ahead(self, strictness, one, other):
        if strictness == "strict":
            return one in [deed for deed in self.deeds if deed[6] is not None and deed[6] < other[5]]
        return strictness == "hands" and one[0] == other[0] and one[5] < other[5]

    def rows(self):
        """All rows of deeds that an order may have: each ended one, each of the others or not."""
        for many in range(len(self.undecided) + 1):
            for some in itertools.combinations(self.undecided, many):
                yield from itertools.permutations(self.ended + list(some))

    def order_of(self, row):
        """The row with the store's answers, and whether it explains the tale."""
        states = {name: first_state(kind) for name, kind in self.things}
        order, right = [], True
        for number in row:
            hand, name, verb, worth, answer, begin, end = self.deeds[number]
            states[name], heard = do(dict(self.things)[name], states[name], verb, worth)
            right = right and (end is None or answer == heard)
            order.append((number, heard))
        for one, other in itertools.combinations(row, 2):
            right = right and (other, one) not in self.pairs
        return order, right

    def next_places(self, place):
        found = []
        for number, deed in enumerate(self.deeds):
            if number in place[0]:
                continue
            if any([ahead in self.ended and ahead not in place[0] for ahead, behind in self.pairs if behind == number]):
                continue
            if any([behind in place[0] for ahead, behind in self.pairs if ahead == number]):
                continue
            thing = [name for name, kind in self.things].index(deed[1])
            states = list(place[1])
            states[thing], answer = do(self.things[thing][1], states[thing], deed[2], deed[3])
            if number not in self.ended or answer == deed[4]:
                found.append((number, answer, (tuple(sorted((*place[0], number))), tuple(states))))
        return found

    def places(self):
        found, waiting = set(), [((), tuple([first_state(kind) for name, kind in self.things]))]
        while waiting:
            place = waiting.pop()
            if place not in found:
                found.add(place)
                waiting += [step[2] for step in self.next_places(place)]
        return sorted(found, key=lambda place: (len(place[0]), place))

    def is_full(self, place):
        return set(self.ended) <= set(place[0])

    def is_stuck(self, paper):
        if ((), tuple([first_state(kind) for name, kind in self.things])) not in paper:
            return False
        if any([self.is_full(place) for place in paper]):
            return False
        return all([step[2] in paper for place in paper for step in self.next_places(place)])


def chance_tale(source, many, names=("a", "a", "ab")):
    """A tale of so many deeds on some things; the answers are those of a store, done in some row, but for few."""
    things = [(name, source.choice(sorted(VERBS))) for name in source.choice(names)]
    events, busy, begun = [], set(), 0
    while begun < many or (busy and source.random() < 0.9):
        hand = source.randrange(3)
        if hand in busy:
            events.append(("end", hand, 0))
            busy.remove(hand)
        elif begun < many:
            name, kind = source.choice(things)
            events.append(("begin", hand, name, *source.choice(VERBS[kind])))
            busy.add(hand)
            begun += 1
    for deed in chance_answers(source, things, deeds(make_tale(things, events))):
        if deed[6] is not None:
            events[deed[6]] = ("end", deed[0], deed[4])
    return make_tale(things, events)


def chance_answers(source, things, told):
    states = {name: first_state(kind) for name, kind in things}
    for number in chance_row(source, told):
        hand, name, verb, worth, answer, begin, end = told[number]
        states[name], answer = do(dict(things)[name], states[name], verb, worth)
        answer = source.choice(ANSWERS) if source.random() < 0.05 else answer
        told[number] = (hand, name, verb, worth, answer, begin, end)
    return told


def chance_row(source, told):
    """The deeds' numbers in a row that one of the strictnesses allows."""
    sort = source.choice(STRICTNESSES)
    keys = [source.random() for deed in told]
    if sort == "strict":
        keys = [source.uniform(deed[5], 99 if deed[6] is None else deed[6]) for deed in told]
    if sort == "hands":
        for hand in range(3):
            own = [number for number, deed in enumerate(told) if deed[0] == hand]
            for number, key in zip(own, sorted([keys[number] for number in own])):
                keys[number] = key
    return sorted(range(len(told)), key=lambda number: keys[number])


def chance_tales(seed, many_tales, most_deeds, least_deeds=0, names=("a", "a", "ab")):
    source = random.Random(seed)
    return [chance_tale(source, source.randint(least_deeds, most_deeds), names) for number in range(many_tales)]


def all_small_tales():
    """Each tale of a write and two reads of one register that end with 0 or 1; the last one may be open."""
    shapes = sorted(set(itertools.permutations([0, 0, 1, 1, 2, 2])))
    shapes = [shape for shape in shapes if shape.index(0) < shape.index(1) < shape.index(2)]
    hands = [(0, 0, 0), (0, 0, 1), (0, 1, 0), (0, 1, 1), (0, 1, 2)]
    verbs = sorted(set(itertools.permutations([("write", 1), ("read", None), ("read", None)])), key=repr)
    for shape, own, row, answers in itertools.product(shapes, hands, verbs, itertools.product([0, 1], repeat=2)):
        heard = list(answers)
        begins = [("begin", hand, "a", *deed) for hand, deed in zip(own, row)]
        ends = [("end", hand, "ok" if deed[0] == "write" else heard.pop()) for hand, deed in zip(own, row)]
        events = [begins[number] if number not in shape[:place] else ends[number] for place, number in enumerate(shape)]
        if goes_by_turns(events):
            yield make_tale([("a", "register")], events)
            yield make_tale([("a", "register")], events[:-1])


def goes_by_turns(events):
    busy = set()
    for event in events:
        if (event[0] == "begin") == (event[1] in busy):
            return False
        busy ^= {event[1]}
    return True


def chance_state(source, kind):
    numbers = [source.choice([-10 ** 30, -1, 0, 1, 2, 10 ** 30]) for number in range(source.randrange(4))]
    if kind == "queue":
        return tuple(numbers)
    if kind == "set":
        return tuple(sorted(set(numbers)))
    return sum(numbers)
