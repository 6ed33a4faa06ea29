"""Orders of a tale: which deeds have to be ahead of which by each strictness, and whether a list explains the tale."""

from talejudge.basics import is_tuple_of, is_whole
from talejudge.errors import NoStrictness
from talejudge.store import do, first_state
from talejudge.tales import deeds

STRICTNESSES = ("strict", "hands", "bare")


def has_to(tale, strictness):
    check_strictness(strictness)
    told = deeds(tale)
    pairs = []
    for ahead, one in enumerate(told):
        for behind, other in enumerate(told):
            if goes_ahead(one, other, strictness):
                pairs.append((ahead, behind))
    return pairs


def check_strictness(strictness):
    if not isinstance(strictness, str) or strictness not in STRICTNESSES:
        raise NoStrictness("this is none of the strictnesses")


def goes_ahead(one, other, strictness):
    if strictness == "strict":
        return one[6] is not None and one[6] < other[5]
    if strictness == "hands":
        return one[0] == other[0] and one[5] < other[5]
    return False


def explains(tale, strictness, order):
    pairs = has_to(tale, strictness)
    told = deeds(tale)
    if not is_order(told, order):
        return False
    return keeps_to(pairs, [step[0] for step in order]) and is_done_so(tale[0], told, order)


def is_order(told, order):
    if not isinstance(order, list) or not all([is_step(step, len(told)) for step in order]):
        return False
    answers = dict(order)
    if len(answers) < len(order):
        return False
    # None is the answer of no step: so an ended deed that is left out is found here, too.
    return all([deed[6] is None or answers.get(number) == deed[4] for number, deed in enumerate(told)])


def is_step(step, many):
    if not is_tuple_of(step, 2) or not is_whole(step[0]) or not 0 <= step[0] < many:
        return False
    return is_whole(step[1]) or isinstance(step[1], str)


def keeps_to(pairs, numbers):
    stands = dict([(number, place) for place, number in enumerate(numbers)])
    both = [pair for pair in pairs if pair[0] in stands and pair[1] in stands]
    return all([stands[ahead] < stands[behind] for ahead, behind in both])


def is_done_so(things, told, order):
    kinds = dict(things)
    states = dict([(name, first_state(kind)) for name, kind in things])
    for number, answer in order:
        deed = told[number]
        done = do(kinds[deed[1]], states[deed[1]], deed[2], deed[3])
        if done[1] != answer:
            return False
        states[deed[1]] = done[0]
    return True
