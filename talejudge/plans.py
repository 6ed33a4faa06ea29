"""Plans: for each hand the deeds that it is to do on one thing, in order."""

from talejudge.basics import is_tuple_of
from talejudge.store import is_deed


def planned(plan):
    told = []
    for own in plan:
        told.extend(own)
    return told


# Asked of anything as a plan.
def is_plan(kind, plan, most_hands, most_deeds):
    if not isinstance(plan, list) or len(plan) > most_hands or not all([isinstance(own, list) for own in plan]):
        return False
    told = planned(plan)
    return len(told) <= most_deeds and all([is_planned(kind, deed) for deed in told])


def is_planned(kind, deed):
    return is_tuple_of(deed, 2) and is_deed(kind, deed[0], deed[1])
