"""Makers: a counter or a queue made out of a cell, step by step, and all runs of hands that use it.

A run is a tuple (held, hands, events): what the cell holds; for each hand a tuple (left, seen); what was noted. Left
are the deeds that have not ended. Seen is None where no deed is under way, else () where the deed has to read the cell,
or a tuple of the one thing that it read there.
"""

from talejudge.errors import NoPlan
from talejudge.judge import judged
from talejudge.plans import is_plan
from talejudge.store import do, first_state
from talejudge.talenotes import show_tale
from talejudge.tales import make_tale

KINDS = ("counter", "queue")
WAYS = ("swapping", "torn")
MOST_HANDS = 3
MOST_DEEDS = 6


# Asked of anything.
def check_plan(kind, way, plan):
    if not isinstance(kind, str) or kind not in KINDS:
        raise NoPlan("no maker makes this kind")
    if not isinstance(way, str) or way not in WAYS:
        raise NoPlan("no maker goes this way")
    if not is_plan(kind, plan, MOST_HANDS, MOST_DEEDS) or len(plan) == 0:
        raise NoPlan("this is no plan of such a thing's deeds")


def first_run(kind, plan):
    return (first_state(kind), tuple([(tuple(own), None) for own in plan]), ())


def hands_to_go(run):
    return [hand for hand, own in enumerate(run[1]) if len(own[0]) > 0]


def step(kind, way, run, hand):
    left = run[1][hand][0]
    seen = run[1][hand][1]
    if seen is None:
        begun = (run[0], run[1], run[2] + (("begin", hand, "t") + left[0],))
        return read_cell(kind, begun, hand, left)
    if len(seen) == 0:
        return read_cell(kind, run, hand, left)
    if way == "swapping" and run[0] != seen[0]:
        return (run[0], with_hand(run[1], hand, (left, ())), run[2])
    return end_deed(kind, run, hand, left, seen[0])


def read_cell(kind, run, hand, left):
    if ends_with_reading(left[0][0], run[0]):
        return end_deed(kind, run, hand, left, run[0])
    return (run[0], with_hand(run[1], hand, (left, (run[0],))), run[2])


def ends_with_reading(verb, held):
    return verb == "read" or (verb == "take" and len(held) == 0)


# The cell holds then what the deed makes of what it read.
def end_deed(kind, run, hand, left, read):
    done = do(kind, read, left[0][0], left[0][1])
    return (done[0], with_hand(run[1], hand, (left[1:], None)), run[2] + (("end", hand, done[1]),))


def with_hand(hands, hand, own):
    return hands[:hand] + (own,) + hands[hand + 1:]


def tale_of(kind, run):
    return make_tale([("t", kind)], list(run[2]))


def run_maker(kind, way, plan, choices):
    check_plan(kind, way, plan)
    run = first_run(kind, plan)
    for choice in choices:
        ready = hands_to_go(run)
        if len(ready) > 0:
            run = step(kind, way, run, ready[choice % len(ready)])
    return tale_of(kind, run)


def all_runs(kind, way, plan):
    check_plan(kind, way, plan)
    ended = {}
    layer = [first_run(kind, plan)]
    # Rows of moves that come to the same are gone on from once. A swap is in vain only where another one was good
    # since the reading: so each row of moves has an end.
    while len(layer) > 0:
        for run in layer:
            if len(hands_to_go(run)) == 0:
                ended[tale_of(kind, run)] = True
        layer = next_runs(kind, way, layer)
    return sorted(ended, key=show_tale)


def next_runs(kind, way, layer):
    reached = {}
    for run in layer:
        for hand in hands_to_go(run):
            reached[step(kind, way, run, hand)] = True
    return list(reached)


def bad_runs(kind, way, plan):
    return [tale for tale in all_runs(kind, way, plan) if judged(tale, "strict") is None]
