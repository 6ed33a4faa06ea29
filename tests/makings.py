"""Makers told once more by a model of their own: each deed is a generator, which stops behind each step but the last."""

import random

DEEDS = {"counter": [("add", 1), ("add", 1), ("add", -1), ("add", 2), ("add", 0), ("read", None)],
         "queue": [("put", 1), ("put", 1), ("put", 2), ("take", None), ("take", None)]}
WAYS = ["swapping", "torn"]


def behind(verb, worth, seen):
    """What the cell is to hold behind a deed on what it read, and the deed's answer."""
    return {"add": lambda: (seen + worth, seen), "put": lambda: (seen + (worth,), "ok"),
            "take": lambda: (seen[1:], seen[0])}[verb]()


def steps(cell, way, verb, worth):
    while True:
        seen = cell["holds"]
        if verb == "read":
            return seen
        if verb == "take" and seen == ():
            return "none"
        yield
        newer, answer = behind(verb, worth, seen)
        if way == "torn" or cell["holds"] == seen:
            cell["holds"] = newer
            return answer
        yield


def go(kind, way, plan, moves):
    """The events of a run in which the hands do steps in this row, and the hands that may go then."""
    cell, events, left, under_way = {"holds": 0 if kind == "counter" else ()}, [], [list(own) for own in plan], {}
    for hand in moves:
        if hand not in under_way:
            deed = left[hand].pop(0)
            events.append(("begin", hand, "t", *deed))
            under_way[hand] = steps(cell, way, *deed)
        try:
            next(under_way[hand])
        except StopIteration as stop:
            events.append(("end", hand, stop.value))
            del under_way[hand]
    return events, [hand for hand in range(len(plan)) if left[hand] or hand in under_way]


def all_rows(kind, way, plan, most):
    """All rows of moves to the end, with what is noted in each; None where there are more than so many."""
    found, waiting = [], [[]]
    while waiting:
        moves = waiting.pop()
        events, hands = go(kind, way, plan, moves)
        waiting += [moves + [hand] for hand in hands]
        if not hands:
            found.append((moves, events))
        if len(found) + len(waiting) > most:
            return None
    return found


def chance_maker_plan(source, kind, most_deeds):
    plan = [[] for hand in range(source.randint(1, 3))]
    for number in range(source.randint(0, most_deeds)):
        source.choice(plan).append(source.choice(DEEDS[kind]))
    return plan


def chance_maker_plans(seed, many, most_deeds):
    source = random.Random(seed)
    return [(kind, way, chance_maker_plan(source, kind, most_deeds))
            for number in range(many) for kind in sorted(DEEDS) for way in WAYS]
