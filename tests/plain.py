"""Tales of one register r, in short words, and plain ones by chance."""

import itertools
import random

from talejudge.tales import make_tale


def register_tale(words):
    """0w5: hand 0 begins to write 5; 0r: to read; 0.: its write has ended; 0:5: its read has, having heard 5."""
    events = []
    for word in words.split():
        hand, sign, rest = int(word[0]), word[1], word[2:]
        if sign == "w":
            events.append(("begin", hand, "r", "write", int(rest)))
        elif sign == "r":
            events.append(("begin", hand, "r", "read", None))
        else:
            events.append(("end", hand, "ok" if sign == "." else int(rest)))
    return make_tale([("r", "register")], events)


def not_plain():
    """Tales that are not plain, in each of the ways there are."""
    thing = [("r", "register")]
    found = [make_tale([], []), make_tale([("a", "register"), ("b", "register")], []),
             make_tale([("a", "register"), ("q", "queue")], [("begin", 0, "a", "write", 1), ("end", 0, "ok")])]
    for kind in ["counter", "queue", "set", "cell"]:
        found.append(make_tale([("r", kind)], []))
        found.append(make_tale([("r", kind), ("s", "register")], []))
    found.append(make_tale([("r", "cell")], [("begin", 0, "r", "write", 1), ("end", 0, "ok")]))
    # Two writes of one worth, in a row and at once, open or not.
    found += [register_tale(words) for words in [
        "0w5 0. 0w5 0.", "0w5 0. 1w5", "0w5 1w5", "0w5 1w5 0. 1.", "0w5 0. 1w6 1. 2w5 2.", "0w-5 1w-5 1."]]
    # A write of 0.
    found += [register_tale(words) for words in ["0w0", "0w0 0.", "0w1 0. 1w0 1.", "1r 1:0 0w2 0. 1w0"]]
    # Writes that are not answered by ok, and reads that are by a text.
    for answer in [0, 1, 5, -1, "none"]:
        found.append(make_tale(thing, [("begin", 0, "r", "write", 5), ("end", 0, answer)]))
        found.append(make_tale(thing, [("begin", 0, "r", "write", 5), ("end", 0, "ok"), ("begin", 1, "r", "write", 6),
                                       ("begin", 0, "r", "read", None), ("end", 1, answer)]))
    for answer in ["ok", "none"]:
        found.append(make_tale(thing, [("begin", 0, "r", "read", None), ("end", 0, answer)]))
        found.append(make_tale(thing, [("begin", 0, "r", "read", None), ("end", 0, 0), ("begin", 0, "r", "read", None),
                                       ("begin", 1, "r", "read", None), ("end", 1, answer)]))
    return found


def chance_plain_tale(source, many, writing_hands):
    """So many deeds of four hands, of which some alone write; a read hears a late worth, or any, or an unknown one."""
    worths = source.sample([-2, -1, 1, 2, 3, 4, 5, 6, 7, 8, 9, 10], many)
    events, busy, begun, written = [], {}, 0, [0]
    while begun < many or (busy and source.random() < 0.9):
        hand = source.choice(sorted(busy)) if busy and source.random() < 0.4 else source.randrange(4)
        if hand in busy:
            chance, late = source.random(), busy.pop(hand)
            any_one = source.choice(written[-3:]) if chance < 0.95 else source.choice(written + [77])
            events.append(("end", hand, late if late == "ok" or chance < 0.6 else any_one))
        elif begun < many:
            begun += 1
            if hand in writing_hands and source.random() < 0.6:
                events.append(("begin", hand, "r", "write", worths[begun - 1]))
                busy[hand] = "ok"
                written.append(worths[begun - 1])
            else:
                events.append(("begin", hand, "r", "read", None))
                busy[hand] = source.choice(written[-2:])
    return make_tale([("r", "register")], events)


def chance_plain_tales(seed, many_tales, most_deeds, writing_hands, least_deeds=0):
    source = random.Random(seed)
    return [chance_plain_tale(source, source.randint(least_deeds, most_deeds), writing_hands)
            for number in range(many_tales)]


def shapes(many):
    """All rows of begins and ends of so many deeds, told by their numbers; they are numbered by their begins."""
    found = [[]]
    for place in range(2 * many):
        longer = []
        for row in found:
            begun = len(set(row))
            longer += [row + [number] for number in range(begun) if row.count(number) == 1]
            longer += [row + [begun]] if begun < many else []
        found = longer
    return found


def all_plain_tales(verbs, answers):
    """All tales of these deeds, each by a hand of its own, in all rows and shapes; the last ones may be open."""
    for row in sorted(set(itertools.permutations(verbs)), key=repr):
        reads = [number for number, deed in enumerate(row) if deed[0] == "read"]
        for shape, heard in itertools.product(shapes(len(row)), itertools.product(answers, repeat=len(reads))):
            told = dict(zip(reads, heard))
            events = []
            for place, number in enumerate(shape):
                begins = number not in shape[:place]
                end = ("end", number, told.get(number, "ok"))
                events.append(("begin", number, "r", *row[number]) if begins else end)
            while events and events[-1][0] == "end":
                yield make_tale([("r", "register")], events)
                events = events[:-1]
            yield make_tale([("r", "register")], events)
