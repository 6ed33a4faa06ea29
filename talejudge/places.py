"""Places of a tale: which deeds are done and in what states the things are then, and the ways from one to the next."""

from talejudge.basics import is_rising, is_tuple_of
from talejudge.orders import has_to
from talejudge.store import do, first_state, is_state
from talejudge.tales import deeds


class Candidate:
    """One deed, with all that tells whether it may be next at a place."""

    def __init__(self, number, deed, thing, kind, pairs):
        self.number = number
        self.thing = thing
        self.kind = kind
        self.verb = deed[2]
        self.worth = deed[3]
        self.answer = deed[4]
        # All that have to be ahead of a deed are ended, by each strictness: so none of them is passed over here.
        self.aheads = [ahead for ahead, behind in pairs if behind == number]
        self.behinds = [behind for ahead, behind in pairs if ahead == number]

    def may_stand(self, done):
        if self.number in done:
            return False
        for ahead in self.aheads:
            if ahead not in done:
                return False
        for behind in self.behinds:
            if behind in done:
                return False
        return True


class Board:
    """A tale by a strictness, worked out once, as the same is asked again at each of many places."""

    def __init__(self, tale, strictness):
        pairs = has_to(tale, strictness)
        told = deeds(tale)
        self.kinds = [kind for name, kind in tale[0]]
        self.first = first_place(tale)
        self.ended = ended_numbers(told)
        self.candidates = []
        names = [name for name, kind in tale[0]]
        for number, deed in enumerate(told):
            thing = names.index(deed[1])
            self.candidates.append(Candidate(number, deed, thing, self.kinds[thing], pairs))

    def steps_from(self, place):
        steps = []
        for candidate in self.candidates:
            if candidate.may_stand(place[0]):
                step = step_of(candidate, place)
                if candidate.answer is None or candidate.answer == step[1]:
                    steps.append(step)
        return steps

    def ends_at(self, place):
        return holds_all(place[0], self.ended)

    # Asked of anything; a place need not be one that can be come to.
    def has_place(self, value):
        if not is_tuple_of(value, 2) or not is_rising(value[0]) or not is_tuple_of(value[1], len(self.kinds)):
            return False
        if not all([0 <= number < len(self.candidates) for number in value[0]]):
            return False
        return all([is_state(kind, state) for kind, state in zip(self.kinds, value[1])])


def step_of(candidate, place):
    thing = candidate.thing
    states = place[1]
    done = do(candidate.kind, states[thing], candidate.verb, candidate.worth)
    numbers = tuple(sorted(place[0] + (candidate.number,)))
    return (candidate.number, done[1], (numbers, states[:thing] + (done[0],) + states[thing + 1:]))


def ended_numbers(told):
    return [number for number, deed in enumerate(told) if deed[6] is not None]


def holds_all(done, numbers):
    return all([number in done for number in numbers])


def first_place(tale):
    return ((), tuple([first_state(kind) for name, kind in tale[0]]))


def nexts(tale, strictness, place):
    board = Board(tale, strictness)
    return board.steps_from(place)


def is_full(tale, place):
    return holds_all(place[0], ended_numbers(deeds(tale)))


def all_places(tale, strictness):
    board = Board(tale, strictness)
    found = []
    layer = [board.first]
    # Each layer has one deed more done than the one ahead of it: so no place is come to in two of them.
    while len(layer) > 0:
        found.extend(layer)
        layer = next_layer(board, layer)
    return found


def next_layer(board, layer):
    reached = {}
    for place in layer:
        for step in board.steps_from(place):
            reached[step[2]] = True
    return sorted(reached)
